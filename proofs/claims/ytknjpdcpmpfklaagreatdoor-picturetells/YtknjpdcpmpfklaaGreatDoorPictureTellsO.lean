/- What PictureTells reaches of my texts, part 15. -/
import Derived.Test.YtknjpdcpmpfklaaGreatDoorPictureTellsN
set_option maxRecDepth 100000
set_option maxHeartbeats 4000000
set_option maxRecDepth 100000
namespace Go.Proofs.YtknjpdcpmpfklaaGreatDoor
open Go.RowKit
theorem plTo_off {l : List Nat} {W H K : Int} (h : (chsP l K W H).2 = 0) : (chsP l K W H).1.length = plOff W H 3 := by
  have hz : (plTo l K W H 3).2.1 = 0 := by
    apply Decidable.byContradiction; intro hn
    rw [chsP_bad (Nat.le_refl 3) hn] at h; exact hn h
  unfold chsP at h ⊢
  rw [if_pos hz] at h ⊢
  split at h
  · rename_i hd; rw [if_pos hd]; exact plTo_len 3 hz
  · cases h
theorem pcref_decode (W H R B K Q D F : Int) (v : Value) (l : List Nat) (g : FD) (g0 g1 g2 : Value) (h : FD) (h0 h1 h2 : Value) (T_b : Nat → Prop) (T_g0 : Nat → Prop) (T_g1 : Nat → Prop) (T_g2 : Nat → Prop) (T_h0 : Nat → Prop) (T_h1 : Nat → Prop) (T_h2 : Nat → Prop) (w0 : World) (hl : l.length ≤ 1000) (h_b : Byt w0 T_b v (l)) (h_g0 : Byt w0 T_g0 g0 ((g).p0)) (h_g1 : Byt w0 T_g1 g1 ((g).p1)) (h_g2 : Byt w0 T_g2 g2 ((g).p2)) (h_h0 : Byt w0 T_h0 h0 ((h).p0)) (h_h1 : Byt w0 T_h1 h1 ((h).p1)) (h_h2 : Byt w0 T_h2 h2 ((h).p2)) :
  Calls Tryz.prog 13 #[.agg #[.int .i64 (W), .int .i64 (H), .int .i64 (R), .int .i64 (B)], .agg #[.int .i64 (K), .int .i64 (Q), .int .i64 (D), .int .i64 (F)], v, .agg #[.int .i64 ((g).W), .int .i64 ((g).H), g0, g1, g2], .agg #[.int .i64 ((h).W), .int .i64 ((h).H), h0, h1, h2]] w0 fun e w' => ∃ (v1 : Value) (T1 : Nat → Prop) (v2 : Value) (T2 : Nat → Prop) (v3 : Value) (T3 : Nat → Prop), e = .returned (.tuple #[.agg #[.int .i64 ((decF l W H R B K Q D F g h).W), .int .i64 ((decF l W H R B K Q D F g h).H), v1, v2, v3], .int .i64 (decE l W H R B K Q D F g h)]) ∧ Kept (fun _ => False) w0 w' ∧ (Owb w' T1 v1 ((decF l W H R B K Q D F g h).p0) ∧ Grew w0 noB T1) ∧ (Owb w' T2 v2 ((decF l W H R B K Q D F g h).p1) ∧ Grew w0 noB T2) ∧ (Owb w' T3 v3 ((decF l W H R B K Q D F g h).p2) ∧ Grew w0 noB T3) ∧ Apart T1 T2 ∧ Apart T1 T3 ∧ Apart T2 T3 := by
 refine calls_wq (args := [.agg #[iv W, iv H, iv R, iv B], .agg #[iv K, iv Q, iv D, iv F], v, .agg #[iv (g.W), iv (g.H), g0, g1, g2], .agg #[iv (h.W), iv (h.H), h0, h1, h2]]) 134 Tryz.func13 rfl rfl (Nat.le_of_ble_eq_true rfl) ?_
 have K0 := Kept.refl (fun _ => False) w0
 have g_b := Grew.refl w0 T_b
 have g_g0 := Grew.refl w0 T_g0
 have g_g1 := Grew.refl w0 T_g1
 have g_g2 := Grew.refl w0 T_g2
 have g_h0 := Grew.refl w0 T_h0
 have g_h1 := Grew.refl w0 T_h1
 have g_h2 := Grew.refl w0 T_h2
 refine wq_seq (wq_region (wl_box_stc (vs := [iv W, iv H, iv R, iv B]) rfl rfl rfl rfl fun p1 w2 B4 g5 k3 => ?_))
 have B14 := h_b.all k3 Apart.none
 have B15 := h_g0.all k3 Apart.none
 have B16 := h_g1.all k3 Apart.none
 have B17 := h_g2.all k3 Apart.none
 have B18 := h_h0.all k3 Apart.none
 have B19 := h_h1.all k3 Apart.none
 have B20 := h_h2.all k3 Apart.none
 have K21 := K0.tr k3
 refine wl_box_stc (vs := [iv K, iv Q, iv D, iv F]) rfl rfl rfl rfl fun p22 w23 B25 g26 k24 => ?_
 have B36 := B14.all k24 Apart.none
 have B37 := B15.all k24 Apart.none
 have B38 := B16.all k24 Apart.none
 have B39 := B17.all k24 Apart.none
 have B40 := B18.all k24 Apart.none
 have B41 := B19.all k24 Apart.none
 have B42 := B20.all k24 Apart.none
 have B43 := B4.all k24 id
 have K44 := K21.tr k24
 refine wl_box_stc (vs := [iv (g.W), iv (g.H), g0, g1, g2]) rfl rfl rfl rfl fun p45 w46 B48 g49 k47 => ?_
 have B60 := B36.all k47 Apart.none
 have B61 := B37.all k47 Apart.none
 have B62 := B38.all k47 Apart.none
 have B63 := B39.all k47 Apart.none
 have B64 := B40.all k47 Apart.none
 have B65 := B41.all k47 Apart.none
 have B66 := B42.all k47 Apart.none
 have B67 := B43.all k47 id
 have B68 := B25.all k47 id
 have K69 := K44.tr k47
 refine wl_box_stc (vs := [iv (h.W), iv (h.H), h0, h1, h2]) rfl rfl rfl rfl fun p70 w71 B73 g74 k72 => ?_
 have B86 := B60.all k72 Apart.none
 have B87 := B61.all k72 Apart.none
 have B88 := B62.all k72 Apart.none
 have B89 := B63.all k72 Apart.none
 have B90 := B64.all k72 Apart.none
 have B91 := B65.all k72 Apart.none
 have B92 := B66.all k72 Apart.none
 have B93 := B67.all k72 id
 have B94 := B68.all k72 id
 have B95 := B48.all k72 id
 have K96 := K69.tr k72
 refine wl_alloc_stc (n := 5) (vs := [iv 0, iv 0, .slice none 0 0, .slice none 0 0, .slice none 0 0]) rfl rfl rfl (by kernel_rfl) fun p97 w98 B100 g101 k99 => ?_
 have gr102 : Grew w0 noB (onB p97) := Grew.new K96 g101
 have B114 := B86.all k99 Apart.none
 have B115 := B87.all k99 Apart.none
 have B116 := B88.all k99 Apart.none
 have B117 := B89.all k99 Apart.none
 have B118 := B90.all k99 Apart.none
 have B119 := B91.all k99 Apart.none
 have B120 := B92.all k99 Apart.none
 have B121 := B93.all k99 id
 have B122 := B94.all k99 id
 have B123 := B95.all k99 id
 have B124 := B73.all k99 id
 have K125 := K96.tr k99
 refine wl_v (iv 0) rfl rfl (y_asg rfl rfl rr) (wl_nil fun F126 hF127 => ?_)
 have s128 : F126 2 = v := (hF127 2).trans rfl
 have s129 : F126 134 = undef := (hF127 134).trans rfl
 have s130 : F126 5 = pt p1 0 := (hF127 5).trans rfl
 have s131 : F126 6 = pt p22 0 := (hF127 6).trans rfl
 have s132 : F126 8 = pt p45 0 := (hF127 8).trans rfl
 have s133 : F126 9 = pt p70 0 := (hF127 9).trans rfl
 have s134 : F126 10 = pt p97 0 := (hF127 10).trans rfl
 clear hF127
 refine then_normal (wq_seq (wq_seq ?_))
 by_cases d135 : (seqE W H R B) ≠ 0
 ·skip
  refine wq_region (wl_v (.agg #[iv W, iv H, iv R, iv B]) rfl rfl (y_load_stc stcT_seq rfl s130 B121 rr) (wl_cs rfl rfl rfl rfl rfl (fun _ _ => by kernel_rfl) (vsC rfl vsN) (href_seq W H R B  _   ) fun w136 k137 => ?_))
  have B149 := B100.all k137 id
  have K150 := K125.tr k137
  refine wl_v (.bool true) rfl rfl (y_neqI rfl rfl rfl (decide_eq_true d135) rr) (wl_v (.bool true) rfl rfl (y_mov rfl rfl rr) (wl_unless 3 false 29 rfl rfl rfl (Or.inl rfl) rfl (wl_unless 3 false 29 rfl rfl rfl (Or.inl rfl) rfl (wl_unless 3 false 29 rfl rfl rfl (Or.inl rfl) rfl (wl_v (.bool true) rfl rfl (y_pickT rfl rfl rfl rr) (wl_nil fun F151 hF152 => ?_))))))
  obtain ⟨s154, s159⟩ := t2 hF152 134 s129 10 s134
  have s160 : F151 33 = .bool true := (hF152 33).trans rfl
  clear hF152
  refine then_normal ?_
  refine wq_cond (t := true) s160 (fun _ => ?_) (fun e => by cases e)
  refine wq_seq ?_
  have hE := decE_may (l := l) (W := W) (H := H) (R := R) (B := B) (K := K) (Q := Q) (D := D) (F := F) (g := g) (h := h) (by rintro ⟨z1, z2⟩; first | exact absurd (show seqE W H R B = 0 from if_pos z1) (by assumption) | exact absurd (show headE K Q D F = 0 from if_pos z2) (by assumption))
  have hFr := decF_no (l := l) (W := W) (H := H) (R := R) (B := B) (K := K) (Q := Q) (D := D) (F := F) (g := g) (h := h) (by rw [hE]; decide)
  refine wq_region (wl_v (.agg #[iv 0, iv 0, .slice none 0 0, .slice none 0 0, .slice none 0 0]) rfl rfl (y_buildL (l' := []) (cells := #[iv 0, iv 0, .slice none 0 0, .slice none 0 0, .slice none 0 0]) rfl bpN (by kernel_rfl) rfl rr) (wl_store_stc (us := [iv 0, iv 0, .slice none 0 0, .slice none 0 0, .slice none 0 0]) stcT_frame rfl rfl rfl s159 rfl B149 rfl (oneI rfl (oneI rfl (oneI rfl (oneI rfl (oneI rfl oneN))))) fun w161 B162 k163 => ?_))
  have K175 := K150.trans k163 (Grew.ok (S := fun _ => False) gr102 noB_le)
  refine wl_v (iv 110) rfl rfl (y_asg rfl rfl rr) (wl_nil fun F176 hF177 => ?_)
  obtain ⟨s178, s179⟩ := t2 hF177 134 s154 10 s159
  have s180 : F176 11 = iv 110 := (hF177 11).trans rfl
  clear hF177
  refine then_normal (wq_ret (then_ret ?_))
  exact end_2 s178 rfl (res_stc (vs := [iv 0, iv 0, .slice none 0 0, .slice none 0 0, .slice none 0 0]) stcT_frame rfl s179 B162) (res_tmp (v := iv 110) rfl s180) ⟨(.slice none 0 0), noB, (.slice none 0 0), noB, (.slice none 0 0), noB, (by rw [hE, hFr] <;> rfl), K175, ⟨(by rw [hFr]; exact (Owb.nil _)), (Grew.refl _ _)⟩, ⟨(by rw [hFr]; exact (Owb.nil _)), (Grew.refl _ _)⟩, ⟨(by rw [hFr]; exact (Owb.nil _)), (Grew.refl _ _)⟩, Apart.none, Apart.none, Apart.none⟩
 ·skip
  refine wq_region (wl_v (.agg #[iv W, iv H, iv R, iv B]) rfl rfl (y_load_stc stcT_seq rfl s130 B121 rr) (wl_cs rfl rfl rfl rfl rfl (fun _ _ => by kernel_rfl) (vsC rfl vsN) (href_seq W H R B  _   ) fun w181 k182 => ?_))
  have B183 := B114.all k182 Apart.none
  have B184 := B115.all k182 Apart.none
  have B185 := B116.all k182 Apart.none
  have B186 := B117.all k182 Apart.none
  have B187 := B118.all k182 Apart.none
  have B188 := B119.all k182 Apart.none
  have B189 := B120.all k182 Apart.none
  have B190 := B121.all k182 id
  have B191 := B122.all k182 id
  have B192 := B123.all k182 id
  have B193 := B124.all k182 id
  have B194 := B100.all k182 id
  have K195 := K125.tr k182
  refine wl_v (.bool false) rfl rfl (y_neqI rfl rfl rfl (decide_eq_false d135) rr) (wl_v (.bool false) rfl rfl (y_mov rfl rfl rr) (wl_vw (.agg #[iv K, iv Q, iv D, iv F]) 3 false 29 rfl rfl rfl rfl rfl (y_load_stc stcT_head rfl s131 B191 rr) (wl_callw (R := fun v_ w_ => v_ = iv (headE K Q D F) ∧ Kept (fun _ => False) w181 w_) 3 false 29 rfl rfl rfl rfl rfl (y_cs rfl rfl rfl (fun _ _ => by kernel_rfl) (ev_func _) (vsC rfl vsN) (href_head K Q D F  _   ) (fun e_ w_ h_ => ⟨_, h_.1, rfl, h_.2⟩)) ?_)))
  rintro _ w196 ⟨rfl, k197⟩
  have B198 := B183.all k197 Apart.none
  have B199 := B184.all k197 Apart.none
  have B200 := B185.all k197 Apart.none
  have B201 := B186.all k197 Apart.none
  have B202 := B187.all k197 Apart.none
  have B203 := B188.all k197 Apart.none
  have B204 := B189.all k197 Apart.none
  have B205 := B190.all k197 id
  have B206 := B191.all k197 id
  have B207 := B192.all k197 id
  have B208 := B193.all k197 id
  have B209 := B194.all k197 id
  have K210 := K195.tr k197
  refine wl_vw (.bool (decide ((headE K Q D F) ≠ 0))) 3 false 29 rfl rfl rfl rfl rfl (y_neqI rfl rfl rfl rfl rr) (wl_v (.bool (decide ((headE K Q D F) ≠ 0))) rfl rfl (y_pickF rfl rfl rfl rr) (wl_nil fun F211 hF212 => ?_))
  obtain ⟨s213, s214, s215, s216, s217, s218, s219⟩ := t7 hF212 2 s128 134 s129 5 s130 6 s131 8 s132 9 s133 10 s134
  have s220 : F211 33 = .bool (decide ((headE K Q D F) ≠ 0)) := (hF212 33).trans rfl
  clear hF212
  refine then_normal ?_
  refine wq_cond s220 (fun c221 => ?_) (fun c221 => ?_)
  ·replace c221 := of_decide_eq_true c221
   refine wq_seq ?_
   have hE := decE_may (l := l) (W := W) (H := H) (R := R) (B := B) (K := K) (Q := Q) (D := D) (F := F) (g := g) (h := h) (by rintro ⟨z1, z2⟩; first | exact absurd (show seqE W H R B = 0 from if_pos z1) (by assumption) | exact absurd (show headE K Q D F = 0 from if_pos z2) (by assumption))
   have hFr := decF_no (l := l) (W := W) (H := H) (R := R) (B := B) (K := K) (Q := Q) (D := D) (F := F) (g := g) (h := h) (by rw [hE]; decide)
   refine wq_region (wl_v (.agg #[iv 0, iv 0, .slice none 0 0, .slice none 0 0, .slice none 0 0]) rfl rfl (y_buildL (l' := []) (cells := #[iv 0, iv 0, .slice none 0 0, .slice none 0 0, .slice none 0 0]) rfl bpN (by kernel_rfl) rfl rr) (wl_store_stc (us := [iv 0, iv 0, .slice none 0 0, .slice none 0 0, .slice none 0 0]) stcT_frame rfl rfl rfl s219 rfl B209 rfl (oneI rfl (oneI rfl (oneI rfl (oneI rfl (oneI rfl oneN))))) fun w222 B223 k224 => ?_))
   have K236 := K210.trans k224 (Grew.ok (S := fun _ => False) gr102 noB_le)
   refine wl_v (iv 110) rfl rfl (y_asg rfl rfl rr) (wl_nil fun F237 hF238 => ?_)
   obtain ⟨s239, s240⟩ := t2 hF238 134 s214 10 s219
   have s241 : F237 11 = iv 110 := (hF238 11).trans rfl
   clear hF238
   refine then_normal (wq_ret (then_ret ?_))
   exact end_2 s239 rfl (res_stc (vs := [iv 0, iv 0, .slice none 0 0, .slice none 0 0, .slice none 0 0]) stcT_frame rfl s240 B223) (res_tmp (v := iv 110) rfl s241) ⟨(.slice none 0 0), noB, (.slice none 0 0), noB, (.slice none 0 0), noB, (by rw [hE, hFr] <;> rfl), K236, ⟨(by rw [hFr]; exact (Owb.nil _)), (Grew.refl _ _)⟩, ⟨(by rw [hFr]; exact (Owb.nil _)), (Grew.refl _ _)⟩, ⟨(by rw [hFr]; exact (Owb.nil _)), (Grew.refl _ _)⟩, Apart.none, Apart.none, Apart.none⟩
  ·replace c221 := of_decide_eq_false c221
   refine wq_skip (then_normal (wq_seq ?_))
   have hm : mayP W H R B K Q D F := ⟨seq_is (by first | assumption | (apply Decidable.byContradiction; assumption)), head_is (by first | assumption | (apply Decidable.byContradiction; assumption))⟩
   have hsq := hm.1
   have hsd := seq_side hm.1
   refine wq_region (wl_v (.agg #[iv W, iv H, iv R, iv B]) rfl rfl (y_load_stc stcT_seq rfl s215 B205 rr) (wl_v (.agg #[iv (g.W), iv (g.H), g0, g1, g2]) rfl rfl (y_load_stc stcT_frame rfl s217 B207 rr) (wl_cs rfl rfl rfl rfl rfl (fun _ _ => by kernel_rfl) (vsC rfl (vsC rfl vsN)) (pcref_fits W H R B g g0 g1 g2 T_g0 T_g1 T_g2 _  B199 B200 B201 ) fun w242 k243 => ?_)))
   have B244 := B198.all k243 Apart.none
   have B245 := B199.all k243 Apart.none
   have B246 := B200.all k243 Apart.none
   have B247 := B201.all k243 Apart.none
   have B248 := B202.all k243 Apart.none
   have B249 := B203.all k243 Apart.none
   have B250 := B204.all k243 Apart.none
   have B251 := B205.all k243 id
   have B252 := B206.all k243 id
   have B253 := B207.all k243 id
   have B254 := B208.all k243 id
   have B255 := B209.all k243 id
   have K256 := K210.tr k243
   refine wl_v (.bool (decide (fitsP W H R B g))) rfl rfl (y_asg rfl rfl rr) (wl_nil fun F257 hF258 => ?_)
   obtain ⟨s259, s260, s261, s262, s263, s264, s265⟩ := t7 hF258 2 s213 134 s214 5 s215 6 s216 8 s217 9 s218 10 s219
   have s266 : F257 12 = .bool (decide (fitsP W H R B g)) := (hF258 12).trans rfl
   clear hF258
   refine then_normal (wq_seq (wq_region (wl_v (.agg #[iv W, iv H, iv R, iv B]) rfl rfl (y_load_stc stcT_seq rfl s261 B251 rr) (wl_v (.agg #[iv (h.W), iv (h.H), h0, h1, h2]) rfl rfl (y_load_stc stcT_frame rfl s264 B254 rr) (wl_cs rfl rfl rfl rfl rfl (fun _ _ => by kernel_rfl) (vsC rfl (vsC rfl vsN)) (pcref_fits W H R B h h0 h1 h2 T_h0 T_h1 T_h2 _  B248 B249 B250 ) fun w267 k268 => ?_)))))
   have B269 := B244.all k268 Apart.none
   have B270 := B245.all k268 Apart.none
   have B271 := B246.all k268 Apart.none
   have B272 := B247.all k268 Apart.none
   have B273 := B248.all k268 Apart.none
   have B274 := B249.all k268 Apart.none
   have B275 := B250.all k268 Apart.none
   have B276 := B251.all k268 id
   have B277 := B252.all k268 id
   have B278 := B253.all k268 id
   have B279 := B254.all k268 id
   have B280 := B255.all k268 id
   have K281 := K256.tr k268
   refine wl_v (.bool (decide (fitsP W H R B h))) rfl rfl (y_asg rfl rfl rr) (wl_nil fun F282 hF283 => ?_)
   obtain ⟨s284, s285, s286, s287, s288, s289, s290, s291⟩ := t8 hF283 2 s259 134 s260 5 s261 6 s262 8 s263 9 s264 10 s265 12 s266
   have s292 : F282 13 = .bool (decide (fitsP W H R B h)) := (hF283 13).trans rfl
   clear hF283
   refine then_normal (wq_seq (wq_seq ?_))
   refine wq_cut (fun FF ww => FF 56 = .bool (decide ((K ≠ 0 ∧ ¬ fitsP W H R B g) ∨ (K = 2 ∧ ¬ fitsP W H R B h))) ∧ FF 2 = v ∧ FF 5 = pt p1 0 ∧ FF 6 = pt p22 0 ∧ FF 8 = pt p45 0 ∧ FF 9 = pt p70 0 ∧ FF 10 = pt p97 0 ∧ FF 134 = undef ∧ Kept (fun _ => False) w0 ww ∧ Byt ww T_b v l ∧ Byt ww T_g0 g0 (g.p0) ∧ Byt ww T_g1 g1 (g.p1) ∧ Byt ww T_g2 g2 (g.p2) ∧ Byt ww T_h0 h0 (h.p0) ∧ Byt ww T_h1 h1 (h.p1) ∧ Byt ww T_h2 h2 (h.p2) ∧ Stc ww p1 23 [iv W, iv H, iv R, iv B] ∧ Stc ww p22 25 [iv K, iv Q, iv D, iv F] ∧ Stc ww p45 29 [iv (g.W), iv (g.H), g0, g1, g2] ∧ Stc ww p70 29 [iv (h.W), iv (h.H), h0, h1, h2] ∧ Stc ww p97 29 [iv 0, iv 0, .slice none 0 0, .slice none 0 0, .slice none 0 0]) ?_ ?_
   ·skip
    by_cases d293 : K ≠ 0
    ·skip
     rcases Bool.eq_false_or_eq_true (decide (fitsP W H R B g)) with d294 | d294
     ·skip
      by_cases d295 : K = 2
      ·skip
       rcases Bool.eq_false_or_eq_true (decide (fitsP W H R B h)) with d296 | d296
       ·skip
        refine wq_region (wl_v (pt p22 0) rfl rfl (y_fieldR (n := 1) rfl s287 Tryz.underlying25 rfl (by kernel_rfl) (by decide) rfl rr) (wl_v (iv K) rfl rfl (y_ld_stc rfl rfl Tryz.underlying3 B277 rfl rfl rr) (wl_v (.bool true) rfl rfl (y_neqI rfl rfl rfl (decide_eq_true d293) rr) (wl_v (.bool true) rfl rfl (y_mov rfl rfl rr) (wl_vw (.bool true) 3 true 44 rfl rfl rfl rfl rfl (y_mov rfl (Eq.trans s291 (congrArg Value.bool d294)) rr) (wl_vw (.bool false) 3 true 44 rfl rfl rfl rfl rfl (y_not rfl rfl rfl rr) (wl_v (.bool false) rfl rfl (y_pickT rfl rfl rfl rr) (wl_v (.bool false) rfl rfl (y_mov rfl rfl rr) (wl_vw (pt p22 0) 7 false 48 rfl rfl rfl rfl rfl (y_fieldR (n := 1) rfl s287 Tryz.underlying25 rfl (by kernel_rfl) (by decide) rfl rr) (wl_vw (iv K) 7 false 48 rfl rfl rfl rfl rfl (y_ld_stc rfl rfl Tryz.underlying3 B277 rfl rfl rr) (wl_vw (.bool true) 7 false 48 rfl rfl rfl rfl rfl (y_eqlI rfl rfl rfl (decide_eq_true d295) rr) ?_)))))))))))
        refine wl_vw (.bool true) 7 false 48 rfl rfl rfl rfl rfl (y_mov rfl rfl rr) (wl_vw (.bool true) 11 true 52 rfl rfl rfl rfl rfl (y_mov rfl (Eq.trans s292 (congrArg Value.bool d296)) rr) (wl_vw (.bool false) 11 true 52 rfl rfl rfl rfl rfl (y_not rfl rfl rfl rr) (wl_vw (.bool false) 7 false 48 rfl rfl rfl rfl rfl (y_pickT rfl rfl rfl rr) (wl_v (.bool false) rfl rfl (y_pickF rfl rfl rfl rr) (wl_nil fun F297 hF298 => ?_)))))
        obtain ⟨s299, s300, s301, s302, s303, s304, s305⟩ := t7 hF298 2 s284 134 s285 5 s286 6 s287 8 s288 9 s289 10 s290
        have s306 : F297 56 = .bool false := (hF298 56).trans rfl
        clear hF298
        exact ⟨s306.trans (congrArg Value.bool (show false = decide ((K ≠ 0 ∧ ¬ fitsP W H R B g) ∨ (K = 2 ∧ ¬ fitsP W H R B h)) from (by rw [Bool.eq_iff_iff, decide_eq_true_iff]; first | (simp [*]; done) | (simp_all; done) | (simp_all; omega)))), s299, s301, s302, s303, s304, s305, s300, K281, B269, B270, B271, B272, B273, B274, B275, B276, B277, B278, B279, B280⟩
       ·skip
        refine wq_region (wl_v (pt p22 0) rfl rfl (y_fieldR (n := 1) rfl s287 Tryz.underlying25 rfl (by kernel_rfl) (by decide) rfl rr) (wl_v (iv K) rfl rfl (y_ld_stc rfl rfl Tryz.underlying3 B277 rfl rfl rr) (wl_v (.bool true) rfl rfl (y_neqI rfl rfl rfl (decide_eq_true d293) rr) (wl_v (.bool true) rfl rfl (y_mov rfl rfl rr) (wl_vw (.bool true) 3 true 44 rfl rfl rfl rfl rfl (y_mov rfl (Eq.trans s291 (congrArg Value.bool d294)) rr) (wl_vw (.bool false) 3 true 44 rfl rfl rfl rfl rfl (y_not rfl rfl rfl rr) (wl_v (.bool false) rfl rfl (y_pickT rfl rfl rfl rr) (wl_v (.bool false) rfl rfl (y_mov rfl rfl rr) (wl_vw (pt p22 0) 7 false 48 rfl rfl rfl rfl rfl (y_fieldR (n := 1) rfl s287 Tryz.underlying25 rfl (by kernel_rfl) (by decide) rfl rr) (wl_vw (iv K) 7 false 48 rfl rfl rfl rfl rfl (y_ld_stc rfl rfl Tryz.underlying3 B277 rfl rfl rr) (wl_vw (.bool true) 7 false 48 rfl rfl rfl rfl rfl (y_eqlI rfl rfl rfl (decide_eq_true d295) rr) ?_)))))))))))
        refine wl_vw (.bool true) 7 false 48 rfl rfl rfl rfl rfl (y_mov rfl rfl rr) (wl_vw (.bool false) 11 true 52 rfl rfl rfl rfl rfl (y_mov rfl (Eq.trans s292 (congrArg Value.bool d296)) rr) (wl_vw (.bool true) 11 true 52 rfl rfl rfl rfl rfl (y_not rfl rfl rfl rr) (wl_vw (.bool true) 7 false 48 rfl rfl rfl rfl rfl (y_pickT rfl rfl rfl rr) (wl_v (.bool true) rfl rfl (y_pickF rfl rfl rfl rr) (wl_nil fun F307 hF308 => ?_)))))
        obtain ⟨s309, s310, s311, s312, s313, s314, s315⟩ := t7 hF308 2 s284 134 s285 5 s286 6 s287 8 s288 9 s289 10 s290
        have s316 : F307 56 = .bool true := (hF308 56).trans rfl
        clear hF308
        exact ⟨s316.trans (congrArg Value.bool (show true = decide ((K ≠ 0 ∧ ¬ fitsP W H R B g) ∨ (K = 2 ∧ ¬ fitsP W H R B h)) from (by rw [Bool.eq_iff_iff, decide_eq_true_iff]; first | (simp [*]; done) | (simp_all; done) | (simp_all; omega)))), s309, s311, s312, s313, s314, s315, s310, K281, B269, B270, B271, B272, B273, B274, B275, B276, B277, B278, B279, B280⟩
      ·skip
       refine wq_region (wl_v (pt p22 0) rfl rfl (y_fieldR (n := 1) rfl s287 Tryz.underlying25 rfl (by kernel_rfl) (by decide) rfl rr) (wl_v (iv K) rfl rfl (y_ld_stc rfl rfl Tryz.underlying3 B277 rfl rfl rr) (wl_v (.bool true) rfl rfl (y_neqI rfl rfl rfl (decide_eq_true d293) rr) (wl_v (.bool true) rfl rfl (y_mov rfl rfl rr) (wl_vw (.bool true) 3 true 44 rfl rfl rfl rfl rfl (y_mov rfl (Eq.trans s291 (congrArg Value.bool d294)) rr) (wl_vw (.bool false) 3 true 44 rfl rfl rfl rfl rfl (y_not rfl rfl rfl rr) (wl_v (.bool false) rfl rfl (y_pickT rfl rfl rfl rr) (wl_v (.bool false) rfl rfl (y_mov rfl rfl rr) (wl_vw (pt p22 0) 7 false 48 rfl rfl rfl rfl rfl (y_fieldR (n := 1) rfl s287 Tryz.underlying25 rfl (by kernel_rfl) (by decide) rfl rr) (wl_vw (iv K) 7 false 48 rfl rfl rfl rfl rfl (y_ld_stc rfl rfl Tryz.underlying3 B277 rfl rfl rr) (wl_vw (.bool false) 7 false 48 rfl rfl rfl rfl rfl (y_eqlI rfl rfl rfl (decide_eq_false d295) rr) ?_)))))))))))
       refine wl_vw (.bool false) 7 false 48 rfl rfl rfl rfl rfl (y_mov rfl rfl rr) (wl_unless 11 true 52 rfl rfl rfl (Or.inl rfl) rfl (wl_unless 11 true 52 rfl rfl rfl (Or.inl rfl) rfl (wl_vw (.bool false) 7 false 48 rfl rfl rfl rfl rfl (y_pickF rfl rfl rfl rr) (wl_v (.bool false) rfl rfl (y_pickF rfl rfl rfl rr) (wl_nil fun F317 hF318 => ?_)))))
       obtain ⟨s319, s320, s321, s322, s323, s324, s325⟩ := t7 hF318 2 s284 134 s285 5 s286 6 s287 8 s288 9 s289 10 s290
       have s326 : F317 56 = .bool false := (hF318 56).trans rfl
       clear hF318
       exact ⟨s326.trans (congrArg Value.bool (show false = decide ((K ≠ 0 ∧ ¬ fitsP W H R B g) ∨ (K = 2 ∧ ¬ fitsP W H R B h)) from (by rw [Bool.eq_iff_iff, decide_eq_true_iff]; first | (simp [*]; done) | (simp_all; done) | (simp_all; omega)))), s319, s321, s322, s323, s324, s325, s320, K281, B269, B270, B271, B272, B273, B274, B275, B276, B277, B278, B279, B280⟩
     ·skip
      refine wq_region (wl_v (pt p22 0) rfl rfl (y_fieldR (n := 1) rfl s287 Tryz.underlying25 rfl (by kernel_rfl) (by decide) rfl rr) (wl_v (iv K) rfl rfl (y_ld_stc rfl rfl Tryz.underlying3 B277 rfl rfl rr) (wl_v (.bool true) rfl rfl (y_neqI rfl rfl rfl (decide_eq_true d293) rr) (wl_v (.bool true) rfl rfl (y_mov rfl rfl rr) (wl_vw (.bool false) 3 true 44 rfl rfl rfl rfl rfl (y_mov rfl (Eq.trans s291 (congrArg Value.bool d294)) rr) (wl_vw (.bool true) 3 true 44 rfl rfl rfl rfl rfl (y_not rfl rfl rfl rr) (wl_v (.bool true) rfl rfl (y_pickT rfl rfl rfl rr) (wl_v (.bool true) rfl rfl (y_mov rfl rfl rr) (wl_unless 7 false 48 rfl rfl rfl (Or.inl rfl) rfl (wl_unless 7 false 48 rfl rfl rfl (Or.inl rfl) rfl (wl_unless 7 false 48 rfl rfl rfl (Or.inl rfl) rfl ?_)))))))))))
      refine wl_unless 7 false 48 rfl rfl rfl (Or.inl rfl) rfl (wl_unless 11 true 52 rfl rfl rfl (Or.inr rfl) rfl (wl_unless 11 true 52 rfl rfl rfl (Or.inr rfl) rfl (wl_unless 7 false 48 rfl rfl rfl (Or.inl rfl) rfl (wl_v (.bool true) rfl rfl (y_pickT rfl rfl rfl rr) (wl_nil fun F327 hF328 => ?_)))))
      obtain ⟨s329, s330, s331, s332, s333, s334, s335⟩ := t7 hF328 2 s284 134 s285 5 s286 6 s287 8 s288 9 s289 10 s290
      have s336 : F327 56 = .bool true := (hF328 56).trans rfl
      clear hF328
      exact ⟨s336.trans (congrArg Value.bool (show true = decide ((K ≠ 0 ∧ ¬ fitsP W H R B g) ∨ (K = 2 ∧ ¬ fitsP W H R B h)) from (by rw [Bool.eq_iff_iff, decide_eq_true_iff]; first | (simp [*]; done) | (simp_all; done) | (simp_all; omega)))), s329, s331, s332, s333, s334, s335, s330, K281, B269, B270, B271, B272, B273, B274, B275, B276, B277, B278, B279, B280⟩
    ·skip
     by_cases d337 : K = 2
     ·skip
      rcases Bool.eq_false_or_eq_true (decide (fitsP W H R B h)) with d338 | d338
      ·skip
       refine wq_region (wl_v (pt p22 0) rfl rfl (y_fieldR (n := 1) rfl s287 Tryz.underlying25 rfl (by kernel_rfl) (by decide) rfl rr) (wl_v (iv K) rfl rfl (y_ld_stc rfl rfl Tryz.underlying3 B277 rfl rfl rr) (wl_v (.bool false) rfl rfl (y_neqI rfl rfl rfl (decide_eq_false d293) rr) (wl_v (.bool false) rfl rfl (y_mov rfl rfl rr) (wl_unless 3 true 44 rfl rfl rfl (Or.inl rfl) rfl (wl_unless 3 true 44 rfl rfl rfl (Or.inl rfl) rfl (wl_v (.bool false) rfl rfl (y_pickF rfl rfl rfl rr) (wl_v (.bool false) rfl rfl (y_mov rfl rfl rr) (wl_vw (pt p22 0) 7 false 48 rfl rfl rfl rfl rfl (y_fieldR (n := 1) rfl s287 Tryz.underlying25 rfl (by kernel_rfl) (by decide) rfl rr) (wl_vw (iv K) 7 false 48 rfl rfl rfl rfl rfl (y_ld_stc rfl rfl Tryz.underlying3 B277 rfl rfl rr) (wl_vw (.bool true) 7 false 48 rfl rfl rfl rfl rfl (y_eqlI rfl rfl rfl (decide_eq_true d337) rr) ?_)))))))))))
       refine wl_vw (.bool true) 7 false 48 rfl rfl rfl rfl rfl (y_mov rfl rfl rr) (wl_vw (.bool true) 11 true 52 rfl rfl rfl rfl rfl (y_mov rfl (Eq.trans s292 (congrArg Value.bool d338)) rr) (wl_vw (.bool false) 11 true 52 rfl rfl rfl rfl rfl (y_not rfl rfl rfl rr) (wl_vw (.bool false) 7 false 48 rfl rfl rfl rfl rfl (y_pickT rfl rfl rfl rr) (wl_v (.bool false) rfl rfl (y_pickF rfl rfl rfl rr) (wl_nil fun F339 hF340 => ?_)))))
       obtain ⟨s341, s342, s343, s344, s345, s346, s347⟩ := t7 hF340 2 s284 134 s285 5 s286 6 s287 8 s288 9 s289 10 s290
       have s348 : F339 56 = .bool false := (hF340 56).trans rfl
       clear hF340
       exact ⟨s348.trans (congrArg Value.bool (show false = decide ((K ≠ 0 ∧ ¬ fitsP W H R B g) ∨ (K = 2 ∧ ¬ fitsP W H R B h)) from (by rw [Bool.eq_iff_iff, decide_eq_true_iff]; first | (simp [*]; done) | (simp_all; done) | (simp_all; omega)))), s341, s343, s344, s345, s346, s347, s342, K281, B269, B270, B271, B272, B273, B274, B275, B276, B277, B278, B279, B280⟩
      ·skip
       refine wq_region (wl_v (pt p22 0) rfl rfl (y_fieldR (n := 1) rfl s287 Tryz.underlying25 rfl (by kernel_rfl) (by decide) rfl rr) (wl_v (iv K) rfl rfl (y_ld_stc rfl rfl Tryz.underlying3 B277 rfl rfl rr) (wl_v (.bool false) rfl rfl (y_neqI rfl rfl rfl (decide_eq_false d293) rr) (wl_v (.bool false) rfl rfl (y_mov rfl rfl rr) (wl_unless 3 true 44 rfl rfl rfl (Or.inl rfl) rfl (wl_unless 3 true 44 rfl rfl rfl (Or.inl rfl) rfl (wl_v (.bool false) rfl rfl (y_pickF rfl rfl rfl rr) (wl_v (.bool false) rfl rfl (y_mov rfl rfl rr) (wl_vw (pt p22 0) 7 false 48 rfl rfl rfl rfl rfl (y_fieldR (n := 1) rfl s287 Tryz.underlying25 rfl (by kernel_rfl) (by decide) rfl rr) (wl_vw (iv K) 7 false 48 rfl rfl rfl rfl rfl (y_ld_stc rfl rfl Tryz.underlying3 B277 rfl rfl rr) (wl_vw (.bool true) 7 false 48 rfl rfl rfl rfl rfl (y_eqlI rfl rfl rfl (decide_eq_true d337) rr) ?_)))))))))))
       refine wl_vw (.bool true) 7 false 48 rfl rfl rfl rfl rfl (y_mov rfl rfl rr) (wl_vw (.bool false) 11 true 52 rfl rfl rfl rfl rfl (y_mov rfl (Eq.trans s292 (congrArg Value.bool d338)) rr) (wl_vw (.bool true) 11 true 52 rfl rfl rfl rfl rfl (y_not rfl rfl rfl rr) (wl_vw (.bool true) 7 false 48 rfl rfl rfl rfl rfl (y_pickT rfl rfl rfl rr) (wl_v (.bool true) rfl rfl (y_pickF rfl rfl rfl rr) (wl_nil fun F349 hF350 => ?_)))))
       obtain ⟨s351, s352, s353, s354, s355, s356, s357⟩ := t7 hF350 2 s284 134 s285 5 s286 6 s287 8 s288 9 s289 10 s290
       have s358 : F349 56 = .bool true := (hF350 56).trans rfl
       clear hF350
       exact ⟨s358.trans (congrArg Value.bool (show true = decide ((K ≠ 0 ∧ ¬ fitsP W H R B g) ∨ (K = 2 ∧ ¬ fitsP W H R B h)) from (by rw [Bool.eq_iff_iff, decide_eq_true_iff]; first | (simp [*]; done) | (simp_all; done) | (simp_all; omega)))), s351, s353, s354, s355, s356, s357, s352, K281, B269, B270, B271, B272, B273, B274, B275, B276, B277, B278, B279, B280⟩
     ·skip
      refine wq_region (wl_v (pt p22 0) rfl rfl (y_fieldR (n := 1) rfl s287 Tryz.underlying25 rfl (by kernel_rfl) (by decide) rfl rr) (wl_v (iv K) rfl rfl (y_ld_stc rfl rfl Tryz.underlying3 B277 rfl rfl rr) (wl_v (.bool false) rfl rfl (y_neqI rfl rfl rfl (decide_eq_false d293) rr) (wl_v (.bool false) rfl rfl (y_mov rfl rfl rr) (wl_unless 3 true 44 rfl rfl rfl (Or.inl rfl) rfl (wl_unless 3 true 44 rfl rfl rfl (Or.inl rfl) rfl (wl_v (.bool false) rfl rfl (y_pickF rfl rfl rfl rr) (wl_v (.bool false) rfl rfl (y_mov rfl rfl rr) (wl_vw (pt p22 0) 7 false 48 rfl rfl rfl rfl rfl (y_fieldR (n := 1) rfl s287 Tryz.underlying25 rfl (by kernel_rfl) (by decide) rfl rr) (wl_vw (iv K) 7 false 48 rfl rfl rfl rfl rfl (y_ld_stc rfl rfl Tryz.underlying3 B277 rfl rfl rr) (wl_vw (.bool false) 7 false 48 rfl rfl rfl rfl rfl (y_eqlI rfl rfl rfl (decide_eq_false d337) rr) ?_)))))))))))
      refine wl_vw (.bool false) 7 false 48 rfl rfl rfl rfl rfl (y_mov rfl rfl rr) (wl_unless 11 true 52 rfl rfl rfl (Or.inl rfl) rfl (wl_unless 11 true 52 rfl rfl rfl (Or.inl rfl) rfl (wl_vw (.bool false) 7 false 48 rfl rfl rfl rfl rfl (y_pickF rfl rfl rfl rr) (wl_v (.bool false) rfl rfl (y_pickF rfl rfl rfl rr) (wl_nil fun F359 hF360 => ?_)))))
      obtain ⟨s361, s362, s363, s364, s365, s366, s367⟩ := t7 hF360 2 s284 134 s285 5 s286 6 s287 8 s288 9 s289 10 s290
      have s368 : F359 56 = .bool false := (hF360 56).trans rfl
      clear hF360
      exact ⟨s368.trans (congrArg Value.bool (show false = decide ((K ≠ 0 ∧ ¬ fitsP W H R B g) ∨ (K = 2 ∧ ¬ fitsP W H R B h)) from (by rw [Bool.eq_iff_iff, decide_eq_true_iff]; first | (simp [*]; done) | (simp_all; done) | (simp_all; omega)))), s361, s363, s364, s365, s366, s367, s362, K281, B269, B270, B271, B272, B273, B274, B275, B276, B277, B278, B279, B280⟩
   ·rintro F369 w370 ⟨s372, s373, s374, s375, s376, s377, s378, s379, K371, B380, B381, B382, B383, B384, B385, B386, B387, B388, B389, B390, B391⟩
    refine then_normal ?_
    refine wq_cond s372 (fun c392 => ?_) (fun c392 => ?_)
    ·replace c392 := of_decide_eq_true c392
     refine wq_seq ?_
     have hE := decE_fit (l := l) (g := g) (h := h) hm (by simp_all)
     have hFr := decF_no (l := l) (W := W) (H := H) (R := R) (B := B) (K := K) (Q := Q) (D := D) (F := F) (g := g) (h := h) (by rw [hE]; decide)
     refine wq_region (wl_v (.agg #[iv 0, iv 0, .slice none 0 0, .slice none 0 0, .slice none 0 0]) rfl rfl (y_buildL (l' := []) (cells := #[iv 0, iv 0, .slice none 0 0, .slice none 0 0, .slice none 0 0]) rfl bpN (by kernel_rfl) rfl rr) (wl_store_stc (us := [iv 0, iv 0, .slice none 0 0, .slice none 0 0, .slice none 0 0]) stcT_frame rfl rfl rfl s378 rfl B391 rfl (oneI rfl (oneI rfl (oneI rfl (oneI rfl (oneI rfl oneN))))) fun w393 B394 k395 => ?_))
     have K407 := K371.trans k395 (Grew.ok (S := fun _ => False) gr102 noB_le)
     refine wl_v (iv 130) rfl rfl (y_asg rfl rfl rr) (wl_nil fun F408 hF409 => ?_)
     obtain ⟨s410, s411⟩ := t2 hF409 10 s378 134 s379
     have s412 : F408 11 = iv 130 := (hF409 11).trans rfl
     clear hF409
     refine then_normal (wq_ret (then_ret ?_))
     exact end_2 s411 rfl (res_stc (vs := [iv 0, iv 0, .slice none 0 0, .slice none 0 0, .slice none 0 0]) stcT_frame rfl s410 B394) (res_tmp (v := iv 130) rfl s412) ⟨(.slice none 0 0), noB, (.slice none 0 0), noB, (.slice none 0 0), noB, (by rw [hE, hFr] <;> rfl), K407, ⟨(by rw [hFr]; exact (Owb.nil _)), (Grew.refl _ _)⟩, ⟨(by rw [hFr]; exact (Owb.nil _)), (Grew.refl _ _)⟩, ⟨(by rw [hFr]; exact (Owb.nil _)), (Grew.refl _ _)⟩, Apart.none, Apart.none, Apart.none⟩
    ·replace c392 := of_decide_eq_false c392
     refine wq_skip (then_normal (wq_seq ?_))
     have hEc := (decE_chs (l := l) (g := g) (h := h) hm (by assumption)).trans (congrArg Prod.snd (chsE_yes hm).symm)
     refine wq_region (wl_v (.agg #[iv W, iv H, iv R, iv B]) rfl rfl (y_load_stc stcT_seq rfl s374 B387 rr) (wl_v (.agg #[iv K, iv Q, iv D, iv F]) rfl rfl (y_load_stc stcT_head rfl s375 B388 rr) (wl_mv rfl rfl rfl s373 (wl_call (R := fun v_ w_ => ∃ (v413 : Value) (T416 : Nat → Prop), .tuple #[v413, iv ((chsE l W H R B K Q D F).2)] = v_ ∧ Kept (fun _ => False) w370 w_ ∧ (RoO rCh w_ T416 v413 ((chsE l W H R B K Q D F).1) ∧ Grew w370 noB T416)) rfl rfl (y_cs rfl rfl rfl (fun _ _ => by kernel_rfl) (ev_func _) (vsC rfl (vsC rfl (vsC rfl vsN))) (pcref_choices W H R B K Q D F v l T_b _ (by omega) B380 ) (fun e_ w_ h_ => by obtain ⟨v413_, T416_, he_, hr_⟩ := h_; exact ⟨_, he_, v413_, T416_, rfl, hr_⟩)) ?_))))
     rintro _ w414 ⟨v413, T416, rfl, k415, ⟨B417, g418⟩⟩
     have B419 := B380.all k415 Apart.none
     have B420 := B381.all k415 Apart.none
     have B421 := B382.all k415 Apart.none
     have B422 := B383.all k415 Apart.none
     have B423 := B384.all k415 Apart.none
     have B424 := B385.all k415 Apart.none
     have B425 := B386.all k415 Apart.none
     have B426 := B387.all k415 id
     have B427 := B388.all k415 id
     have B428 := B389.all k415 id
     have B429 := B390.all k415 id
     have B430 := B391.all k415 id
     have K431 := K371.tr k415
     refine wl_v (.tuple #[v413, iv ((chsE l W H R B K Q D F).2)]) rfl rfl (y_mov rfl rfl rr) (wl_v v413 rfl rfl (y_ext rfl rfl rfl rr) (wl_v (iv ((chsE l W H R B K Q D F).2)) rfl rfl (y_ext rfl rfl rfl rr) (wl_v v413 rfl rfl (y_asg rfl rfl rr) (wl_v (iv ((chsE l W H R B K Q D F).2)) rfl rfl (y_asg rfl rfl rr) (wl_nil fun F445 hF446 => ?_)))))
     obtain ⟨s447, s448, s449, s450, s451, s452⟩ := t6 hF446 5 s374 6 s375 8 s376 9 s377 10 s378 134 s379
     have s453 : F445 14 = v413 := (hF446 14).trans rfl
     have s454 : F445 15 = iv ((chsE l W H R B K Q D F).2) := (hF446 15).trans rfl
     clear hF446
     refine then_normal (wq_seq (wq_seq (wq_region (wl_mv rfl rfl rfl s454 (wl_v (.bool (decide (((chsE l W H R B K Q D F).2) ≠ 0))) rfl rfl (y_neqI rfl rfl rfl rfl rr) (wl_nil fun F455 hF456 => ?_))))))
     obtain ⟨s457, s458, s459, s460, s461, s462, s463, s464⟩ := t8 hF456 5 s447 6 s448 8 s449 9 s450 10 s451 134 s452 14 s453 15 s454
     have s465 : F455 66 = .bool (decide (((chsE l W H R B K Q D F).2) ≠ 0)) := (hF456 66).trans rfl
     clear hF456
     refine then_normal ?_
     refine wq_cond s465 (fun c466 => ?_) (fun c466 => ?_)
     ·replace c466 := of_decide_eq_true c466
      refine wq_seq ?_
      have hE := hEc
      have hFr := decF_no (l := l) (W := W) (H := H) (R := R) (B := B) (K := K) (Q := Q) (D := D) (F := F) (g := g) (h := h) (by rw [hE]; assumption)
      refine wq_region (wl_v (.agg #[iv 0, iv 0, .slice none 0 0, .slice none 0 0, .slice none 0 0]) rfl rfl (y_buildL (l' := []) (cells := #[iv 0, iv 0, .slice none 0 0, .slice none 0 0, .slice none 0 0]) rfl bpN (by kernel_rfl) rfl rr) (wl_mv rfl rfl rfl s464 (wl_store_stc (us := [iv 0, iv 0, .slice none 0 0, .slice none 0 0, .slice none 0 0]) stcT_frame rfl rfl rfl s461 rfl B430 rfl (oneI rfl (oneI rfl (oneI rfl (oneI rfl (oneI rfl oneN))))) fun w467 B468 k469 => ?_)))
      have K482 := K431.trans k469 (Grew.ok (S := fun _ => False) gr102 noB_le)
      refine wl_v (iv ((chsE l W H R B K Q D F).2)) rfl rfl (y_asg rfl rfl rr) (wl_nil fun F483 hF484 => ?_)
      obtain ⟨s485, s486⟩ := t2 hF484 10 s461 134 s462
      have s487 : F483 11 = iv ((chsE l W H R B K Q D F).2) := (hF484 11).trans rfl
      clear hF484
      refine then_normal (wq_ret (then_ret ?_))
      exact end_2 s486 rfl (res_stc (vs := [iv 0, iv 0, .slice none 0 0, .slice none 0 0, .slice none 0 0]) stcT_frame rfl s485 B468) (res_tmp (v := iv ((chsE l W H R B K Q D F).2)) rfl s487) ⟨(.slice none 0 0), noB, (.slice none 0 0), noB, (.slice none 0 0), noB, (by rw [hE, hFr] <;> rfl), K482, ⟨(by rw [hFr]; exact (Owb.nil _)), (Grew.refl _ _)⟩, ⟨(by rw [hFr]; exact (Owb.nil _)), (Grew.refl _ _)⟩, ⟨(by rw [hFr]; exact (Owb.nil _)), (Grew.refl _ _)⟩, Apart.none, Apart.none, Apart.none⟩
     ·replace c466 := of_decide_eq_false c466
      refine wq_skip (then_normal (wq_seq ?_))
      have hE : decE l W H R B K Q D F g h = 0 := hEc.trans (by first | assumption | (apply Decidable.byContradiction; assumption))
      have hFr := decF_yes hE
      have hlo0 := plTo_off (l := l) (W := W) (H := H) (K := K) (by have h_ := hEc.symm.trans hE; rw [chsE_yes hm] at h_; exact h_)
      obtain ⟨L, hL⟩ : ∃ L, L = (chsP l K W H).1 := ⟨_, rfl⟩
      rw [← hL] at hlo0 hFr
      have hof := plOff_le (W := W) (H := H) hsd.2.1 hsd.2.2.2.2.1
      have B488 : RoO rCh w414 T416 v413 L := (by rw [hL, ← congrArg Prod.fst (chsE_yes (l := l) hm)]; exact B417)
      refine wq_region (wl_v (.agg #[iv W, iv H, iv R, iv B]) rfl rfl (y_load_stc stcT_seq rfl s457 B426 rr) (wl_call (R := fun v_ w_ => ∃ (v489 : Value) (T494 : Nat → Prop) (v490 : Value) (T495 : Nat → Prop) (v491 : Value) (T496 : Nat → Prop), .agg #[iv ((newF W H 0).W), iv ((newF W H 0).H), v489, v490, v491] = v_ ∧ Kept (fun _ => False) w414 w_ ∧ (Owb w_ T494 v489 ((newF W H 0).p0) ∧ Grew w414 noB T494) ∧ (Owb w_ T495 v490 ((newF W H 0).p1) ∧ Grew w414 noB T495) ∧ (Owb w_ T496 v491 ((newF W H 0).p2) ∧ Grew w414 noB T496) ∧ Apart T494 T495 ∧ Apart T494 T496 ∧ Apart T495 T496) rfl rfl (y_cs rfl rfl rfl (fun _ _ => by kernel_rfl) (ev_func _) (vsC rfl vsN) (pcref_empty W H R B  _ (by assumption)  ) (fun e_ w_ h_ => by obtain ⟨v489_, T494_, v490_, T495_, v491_, T496_, he_, hr_⟩ := h_; exact ⟨_, he_, v489_, T494_, v490_, T495_, v491_, T496_, rfl, hr_⟩)) ?_))
      rintro _ w492 ⟨v489, T494, v490, T495, v491, T496, rfl, k493, ⟨B497, g500⟩, ⟨B498, g501⟩, ⟨B499, g502⟩, ap503, ap504, ap505⟩
      have B506 := B419.all k493 Apart.none
      have B507 := B420.all k493 Apart.none
      have B508 := B421.all k493 Apart.none
      have B509 := B422.all k493 Apart.none
      have B510 := B423.all k493 Apart.none
      have B511 := B424.all k493 Apart.none
      have B512 := B425.all k493 Apart.none
      have B513 := B426.all k493 id
      have B514 := B427.all k493 id
      have B515 := B428.all k493 id
      have B516 := B429.all k493 id
      have B517 := B430.all k493 id
      have B518 := B488.all k493 Apart.none
      have K519 := K431.tr k493
      have gr520 : Grew w0 noB T494 := Grew.new K431 g500
      have ap521 : Apart T494 T_b := Apart.new g500 B419.live
      have ap522 : Apart T494 T_g0 := Apart.new g500 B420.live
      have ap523 : Apart T494 T_g1 := Apart.new g500 B421.live
      have ap524 : Apart T494 T_g2 := Apart.new g500 B422.live
      have ap525 : Apart T494 T_h0 := Apart.new g500 B423.live
      have ap526 : Apart T494 T_h1 := Apart.new g500 B424.live
      have ap527 : Apart T494 T_h2 := Apart.new g500 B425.live
      have ap528 : Apart T494 (onB p1) := Apart.new g500 (onB_live B426.lt)
      have ap529 : Apart T494 (onB p22) := Apart.new g500 (onB_live B427.lt)
      have ap530 : Apart T494 (onB p45) := Apart.new g500 (onB_live B428.lt)
      have ap531 : Apart T494 (onB p70) := Apart.new g500 (onB_live B429.lt)
      have ap532 : Apart T494 (onB p97) := Apart.new g500 (onB_live B430.lt)
      have ap533 : Apart T494 T416 := Apart.new g500 B488.live
      have gr534 : Grew w0 noB T495 := Grew.new K431 g501
      have ap535 : Apart T495 T_b := Apart.new g501 B419.live
      have ap536 : Apart T495 T_g0 := Apart.new g501 B420.live
      have ap537 : Apart T495 T_g1 := Apart.new g501 B421.live
      have ap538 : Apart T495 T_g2 := Apart.new g501 B422.live
      have ap539 : Apart T495 T_h0 := Apart.new g501 B423.live
      have ap540 : Apart T495 T_h1 := Apart.new g501 B424.live
      have ap541 : Apart T495 T_h2 := Apart.new g501 B425.live
      have ap542 : Apart T495 (onB p1) := Apart.new g501 (onB_live B426.lt)
      have ap543 : Apart T495 (onB p22) := Apart.new g501 (onB_live B427.lt)
      have ap544 : Apart T495 (onB p45) := Apart.new g501 (onB_live B428.lt)
      have ap545 : Apart T495 (onB p70) := Apart.new g501 (onB_live B429.lt)
      have ap546 : Apart T495 (onB p97) := Apart.new g501 (onB_live B430.lt)
      have ap547 : Apart T495 T416 := Apart.new g501 B488.live
      have gr548 : Grew w0 noB T496 := Grew.new K431 g502
      have ap549 : Apart T496 T_b := Apart.new g502 B419.live
      have ap550 : Apart T496 T_g0 := Apart.new g502 B420.live
      have ap551 : Apart T496 T_g1 := Apart.new g502 B421.live
      have ap552 : Apart T496 T_g2 := Apart.new g502 B422.live
      have ap553 : Apart T496 T_h0 := Apart.new g502 B423.live
      have ap554 : Apart T496 T_h1 := Apart.new g502 B424.live
      have ap555 : Apart T496 T_h2 := Apart.new g502 B425.live
      have ap556 : Apart T496 (onB p1) := Apart.new g502 (onB_live B426.lt)
      have ap557 : Apart T496 (onB p22) := Apart.new g502 (onB_live B427.lt)
      have ap558 : Apart T496 (onB p45) := Apart.new g502 (onB_live B428.lt)
      have ap559 : Apart T496 (onB p70) := Apart.new g502 (onB_live B429.lt)
      have ap560 : Apart T496 (onB p97) := Apart.new g502 (onB_live B430.lt)
      have ap561 : Apart T496 T416 := Apart.new g502 B488.live
      refine wl_alloc_stc (n := 5) (vs := [iv 0, iv 0, .slice none 0 0, .slice none 0 0, .slice none 0 0]) rfl rfl rfl (by kernel_rfl) fun p562 w563 B565 g566 k564 => ?_
      have gr567 : Grew w0 noB (onB p562) := Grew.new K519 g566
      have ap568 : Apart (onB p562) T_b := Apart.new g566 B506.live
      have ap569 : Apart (onB p562) T_g0 := Apart.new g566 B507.live
      have ap570 : Apart (onB p562) T_g1 := Apart.new g566 B508.live
      have ap571 : Apart (onB p562) T_g2 := Apart.new g566 B509.live
      have ap572 : Apart (onB p562) T_h0 := Apart.new g566 B510.live
      have ap573 : Apart (onB p562) T_h1 := Apart.new g566 B511.live
      have ap574 : Apart (onB p562) T_h2 := Apart.new g566 B512.live
      have ap575 : Apart (onB p562) (onB p1) := Apart.new g566 (onB_live B513.lt)
      have ap576 : Apart (onB p562) (onB p22) := Apart.new g566 (onB_live B514.lt)
      have ap577 : Apart (onB p562) (onB p45) := Apart.new g566 (onB_live B515.lt)
      have ap578 : Apart (onB p562) (onB p70) := Apart.new g566 (onB_live B516.lt)
      have ap579 : Apart (onB p562) (onB p97) := Apart.new g566 (onB_live B517.lt)
      have ap580 : Apart (onB p562) T416 := Apart.new g566 B518.live
      have ap581 : Apart (onB p562) T494 := Apart.new g566 B497.live
      have ap582 : Apart (onB p562) T495 := Apart.new g566 B498.live
      have ap583 : Apart (onB p562) T496 := Apart.new g566 B499.live
      have B584 := B506.all k564 Apart.none
      have B585 := B507.all k564 Apart.none
      have B586 := B508.all k564 Apart.none
      have B587 := B509.all k564 Apart.none
      have B588 := B510.all k564 Apart.none
      have B589 := B511.all k564 Apart.none
      have B590 := B512.all k564 Apart.none
      have B591 := B513.all k564 id
      have B592 := B514.all k564 id
      have B593 := B515.all k564 id
      have B594 := B516.all k564 id
      have B595 := B517.all k564 id
      have B596 := B518.all k564 Apart.none
      have B597 := B497.all k564 Apart.none
      have B598 := B498.all k564 Apart.none
      have B599 := B499.all k564 Apart.none
      have K600 := K519.tr k564
      refine wl_store_stc (us := [iv ((newF W H 0).W), iv ((newF W H 0).H), v489, v490, v491]) stcT_frame rfl rfl rfl rfl rfl B565 rfl (oneI rfl (oneI rfl (oneI B597.one (oneI B598.one (oneI B599.one oneN))))) fun w601 B602 k603 => ?_
      have B604 := B584.all k603 ap568.symm
      have B605 := B585.all k603 ap569.symm
      have B606 := B586.all k603 ap570.symm
      have B607 := B587.all k603 ap571.symm
      have B608 := B588.all k603 ap572.symm
      have B609 := B589.all k603 ap573.symm
      have B610 := B590.all k603 ap574.symm
      have B611 := B591.all k603 (ap575.symm p1 rfl)
      have B612 := B592.all k603 (ap576.symm p22 rfl)
      have B613 := B593.all k603 (ap577.symm p45 rfl)
      have B614 := B594.all k603 (ap578.symm p70 rfl)
      have B615 := B595.all k603 (ap579.symm p97 rfl)
      have B616 := B596.all k603 ap580.symm
      have B617 := B597.all k603 ap581.symm
      have B618 := B598.all k603 ap582.symm
      have B619 := B599.all k603 ap583.symm
      have K620 := K600.trans k603 (Grew.ok (S := fun _ => False) gr567 noB_le)
      refine wl_nil fun F621 hF622 => ?_
      obtain ⟨s623, s624, s625, s626, s627, s628, s629⟩ := t7 hF622 5 s457 6 s458 8 s459 9 s460 10 s461 134 s462 14 s463
      have s630 : F621 16 = pt p562 0 := (hF622 16).trans rfl
      clear hF622
      refine then_normal (wq_seq (wq_region (wl_v (iv 0) rfl rfl (y_asg rfl rfl rr) (wl_nil fun F631 hF632 => ?_))))
      obtain ⟨s633, s634, s635, s636, s637, s638, s639, s640⟩ := t8 hF632 5 s623 6 s624 8 s625 9 s626 10 s627 134 s628 14 s629 16 s630
      have s641 : F631 17 = iv 0 := (hF632 17).trans rfl
      clear hF632
      refine then_normal (wq_seq (wq_seq (wq_region (wl_v (iv 0) rfl rfl (y_asg rfl rfl rr) (wl_nil fun F642 hF643 => ?_)))))
      obtain ⟨s644, s645, s646, s647, s648, s649, s650, s651, s652⟩ := t9 hF643 5 s633 6 s634 8 s635 9 s636 10 s637 134 s638 14 s639 16 s640 17 s641
      have s653 : F642 18 = iv 0 := (hF643 18).trans rfl
      clear hF643
      refine then_normal (wq_block (wq_rounds 4 (wqr_step (wq_seq (wq_seq (wq_region (wl_mv rfl rfl rfl s653 (wl_v (.bool true) rfl rfl (y_lss rfl rfl rfl rfl rr) (wl_nil fun F654 hF655 => ?_)))))))))
      obtain ⟨s656, s657, s658, s659, s660, s661, s662, s663, s664, s665⟩ := t10 hF655 5 s644 6 s645 8 s646 9 s647 10 s648 134 s649 14 s650 16 s651 17 s652 18 s653
      have s666 : F654 72 = .bool true := (hF655 72).trans rfl
      clear hF655
      refine then_normal ?_
      refine wq_cond (t := true) s666 (fun _ => ?_) (fun e => by cases e)
      refine wq_skip (then_normal (wq_seq (wq_block (wq_seq (wq_region (wl_v (.agg #[iv W, iv H, iv R, iv B]) rfl rfl (y_load_stc stcT_seq rfl s656 B611 rr) (wl_mv rfl rfl rfl s665 (wl_cs rfl rfl rfl rfl rfl (fun _ _ => by kernel_rfl) (vsC rfl (vsC rfl vsN)) (pcref_blocks W H R B 0  _ (by assumption)  ) fun w667 k668 => ?_))))))))
      have B669 := B604.all k668 Apart.none
      have B670 := B605.all k668 Apart.none
      have B671 := B606.all k668 Apart.none
      have B672 := B607.all k668 Apart.none
      have B673 := B608.all k668 Apart.none
      have B674 := B609.all k668 Apart.none
      have B675 := B610.all k668 Apart.none
      have B676 := B611.all k668 id
      have B677 := B612.all k668 id
      have B678 := B613.all k668 id
      have B679 := B614.all k668 id
      have B680 := B615.all k668 id
      have B681 := B616.all k668 Apart.none
      have B682 := B617.all k668 Apart.none
      have B683 := B618.all k668 Apart.none
      have B684 := B619.all k668 Apart.none
      have B685 := B602.all k668 id
      have K686 := K620.tr k668
      refine wl_v (.tuple #[iv ((plN W 0 : Nat) : Int), iv ((plN H 0 : Nat) : Int)]) rfl rfl (y_mov rfl rfl rr) (wl_v (iv ((plN W 0 : Nat) : Int)) rfl rfl (y_ext rfl rfl rfl rr) (wl_v (iv ((plN H 0 : Nat) : Int)) rfl rfl (y_ext rfl rfl rfl rr) (wl_v (iv ((plN W 0 : Nat) : Int)) rfl rfl (y_asg rfl rfl rr) (wl_v (iv ((plN H 0 : Nat) : Int)) rfl rfl (y_asg rfl rfl rr) (wl_nil fun F687 hF688 => ?_)))))
      obtain ⟨s689, s690, s691, s692, s693, s694, s695, s696, s697, s698⟩ := t10 hF688 5 s656 6 s657 8 s658 9 s659 10 s660 134 s661 14 s662 16 s663 17 s664 18 s665
      have s699 : F687 19 = iv ((plN W 0 : Nat) : Int) := (hF688 19).trans rfl
      have s700 : F687 20 = iv ((plN H 0 : Nat) : Int) := (hF688 20).trans rfl
      clear hF688
      refine then_normal (wq_seq ?_)
      have hw0 := plN_pos (W := W) (p := 0) hsd.1
      have hw1 := plN_le (W := W) (p := 0) hsd.2.1
      have hn1 := plN_le (W := H) (p := 0) hsd.2.2.2.2.1
      have hwn : plN W 0 * plN H 0 ≤ 16 * 16 := Nat.mul_le_mul hw1 hn1
      have hofn := hof 0 (by decide)
      refine wq_region (wl_v (iv 0) rfl rfl (y_asg rfl rfl rr) (wl_nil fun F701 hF702 => ?_))
      obtain ⟨s703, s704, s705, s706, s707, s708, s709, s710, s711, s712, s713, s714⟩ := t12 hF702 5 s689 6 s690 8 s691 9 s692 10 s693 134 s694 14 s695 16 s696 17 s697 18 s698 19 s699 20 s700
      have s715 : F701 21 = iv 0 := (hF702 21).trans rfl
      clear hF702
      refine then_normal (wq_block (wq_loop (fun nn FF ww => ∃ (i0 : Nat), ∃ (a0 : Value), ∃ (b0 : Value), ∃ (c0 : Value), ∃ (T716 : Nat → Prop), ∃ (T717 : Nat → Prop), ∃ (T718 : Nat → Prop), (i0 ≤ (plN W 0 * plN H 0)) ∧ nn = (plN W 0 * plN H 0) - i0 ∧ FF 5 = pt p1 0 ∧ FF 6 = pt p22 0 ∧ FF 8 = pt p45 0 ∧ FF 9 = pt p70 0 ∧ FF 10 = pt p97 0 ∧ FF 14 = v413 ∧ FF 16 = pt p562 0 ∧ FF 18 = iv 0 ∧ FF 19 = iv ((plN W 0 : Nat) : Int) ∧ FF 20 = iv ((plN H 0 : Nat) : Int) ∧ FF 134 = undef ∧ FF 17 = iv (((plOff W H 0 + i0) : Nat) : Int) ∧ FF 21 = iv ((i0 : Nat) : Int) ∧ Kept (fun _ => False) w0 ww ∧ Byt ww T_b v l ∧ Byt ww T_g0 g0 (g.p0) ∧ Byt ww T_g1 g1 (g.p1) ∧ Byt ww T_g2 g2 (g.p2) ∧ Byt ww T_h0 h0 (h.p0) ∧ Byt ww T_h1 h1 (h.p1) ∧ Byt ww T_h2 h2 (h.p2) ∧ Stc ww p1 23 [iv W, iv H, iv R, iv B] ∧ Stc ww p22 25 [iv K, iv Q, iv D, iv F] ∧ Stc ww p45 29 [iv (g.W), iv (g.H), g0, g1, g2] ∧ Stc ww p70 29 [iv (h.W), iv (h.H), h0, h1, h2] ∧ Stc ww p97 29 [iv 0, iv 0, .slice none 0 0, .slice none 0 0, .slice none 0 0] ∧ RoO rCh ww T416 v413 L ∧ Stc ww p562 29 [iv ((decTo g h Q 0 (plN W 0) L (plOff W H 0) (frTo g h Q W H L 0) i0).W), iv ((decTo g h Q 0 (plN W 0) L (plOff W H 0) (frTo g h Q W H L 0) i0).H), a0, b0, c0] ∧ Owb ww T716 a0 ((decTo g h Q 0 (plN W 0) L (plOff W H 0) (frTo g h Q W H L 0) i0).p0) ∧ Owb ww T717 b0 ((decTo g h Q 0 (plN W 0) L (plOff W H 0) (frTo g h Q W H L 0) i0).p1) ∧ Owb ww T718 c0 ((decTo g h Q 0 (plN W 0) L (plOff W H 0) (frTo g h Q W H L 0) i0).p2) ∧ Grew w0 noB T716 ∧ Grew w0 noB T717 ∧ Grew w0 noB T718 ∧ Apart T716 T_b ∧ Apart T716 T_g0 ∧ Apart T716 T_g1 ∧ Apart T716 T_g2 ∧ Apart T716 T_h0 ∧ Apart T716 T_h1 ∧ Apart T716 T_h2 ∧ Apart T716 (onB p1) ∧ Apart T716 (onB p22) ∧ Apart T716 (onB p45) ∧ Apart T716 (onB p70) ∧ Apart T716 (onB p97) ∧ Apart T716 T416 ∧ Apart T716 (onB p562) ∧ Apart T716 T717 ∧ Apart T716 T718 ∧ Apart T717 T_b ∧ Apart T717 T_g0 ∧ Apart T717 T_g1 ∧ Apart T717 T_g2 ∧ Apart T717 T_h0 ∧ Apart T717 T_h1 ∧ Apart T717 T_h2 ∧ Apart T717 (onB p1) ∧ Apart T717 (onB p22) ∧ Apart T717 (onB p45) ∧ Apart T717 (onB p70) ∧ Apart T717 (onB p97) ∧ Apart T717 T416 ∧ Apart T717 (onB p562) ∧ Apart T717 T718 ∧ Apart T718 T_b ∧ Apart T718 T_g0 ∧ Apart T718 T_g1 ∧ Apart T718 T_g2 ∧ Apart T718 T_h0 ∧ Apart T718 T_h1 ∧ Apart T718 T_h2 ∧ Apart T718 (onB p1) ∧ Apart T718 (onB p22) ∧ Apart T718 (onB p45) ∧ Apart T718 (onB p70) ∧ Apart T718 (onB p97) ∧ Apart T718 T416 ∧ Apart T718 (onB p562)) ((plN W 0 * plN H 0) - 0) ⟨0, v489, v490, v491, T494, T495, T496, by omega, rfl, s703, s704, s705, s706, s707, s709, s710, s712, s713, s714, s708, (by have h_ := s711; exact h_), s715, K686, B669, B670, B671, B672, B673, B674, B675, B676, B677, B678, B679, B680, B681, (by have h_ := B685; exact h_), (by have h_ := B682; exact h_), (by have h_ := B683; exact h_), (by have h_ := B684; exact h_), gr520, gr534, gr548, ap521, ap522, ap523, ap524, ap525, ap526, ap527, ap528, ap529, ap530, ap531, ap532, ap533, ap581.symm, ap503, ap504, ap535, ap536, ap537, ap538, ap539, ap540, ap541, ap542, ap543, ap544, ap545, ap546, ap547, ap582.symm, ap505, ap549, ap550, ap551, ap552, ap553, ap554, ap555, ap556, ap557, ap558, ap559, ap560, ap561, ap583.symm⟩ ?_))
      rintro n722 F719 w720 ⟨i0, a0, b0, c0, T716, T717, T718, i723, hn722, s724, s725, s726, s727, s728, s729, s730, s731, s732, s733, s734, s735, s736, K721, B737, B738, B739, B740, B741, B742, B743, B744, B745, B746, B747, B748, B749, B750, B751, B752, B753, gr754, gr755, gr756, ap757, ap758, ap759, ap760, ap761, ap762, ap763, ap764, ap765, ap766, ap767, ap768, ap769, ap770, ap771, ap772, ap773, ap774, ap775, ap776, ap777, ap778, ap779, ap780, ap781, ap782, ap783, ap784, ap785, ap786, ap787, ap788, ap789, ap790, ap791, ap792, ap793, ap794, ap795, ap796, ap797, ap798, ap799, ap800, ap801⟩
      refine wq_seq (wq_seq (wq_region (wl_mv rfl rfl rfl s736 (wl_mv rfl rfl rfl s732 (wl_mv rfl rfl rfl s733 (wl_v (iv ((plN W 0 * plN H 0 : Nat) : Int)) rfl rfl (y_mul rfl rfl rfl (i64_n (by rw [Int.natCast_mul]) (by omega)) rr) (wl_v (.bool (decide (((i0 : Nat) : Int) < ((plN W 0 * plN H 0 : Nat) : Int)))) rfl rfl (y_lss rfl rfl rfl rfl rr) (wl_nil fun F802 hF803 => ?_))))))))
      obtain ⟨s804, s805, s806, s807, s808, s809, s810, s811, s812, s813, s814, s815, s816⟩ := t13 hF803 5 s724 6 s725 8 s726 9 s727 10 s728 14 s729 16 s730 18 s731 19 s732 20 s733 134 s734 17 s735 21 s736
      have s817 : F802 85 = .bool (decide (((i0 : Nat) : Int) < ((plN W 0 * plN H 0 : Nat) : Int))) := (hF803 85).trans rfl
      clear hF803
      refine then_normal ?_
      refine wq_cond s817 (fun c818 => ?_) (fun c818 => ?_)
      ·replace c818 := of_decide_eq_true c818
       refine wq_skip (then_normal (wq_seq (wq_block (wq_seq ?_))))
       have hdv := Nat.div_le_self i0 (plN W 0)
       have hxy := pXY_in (i := i0) hw0 hw1 (by omega)
       refine wq_cas (γ := Unit) [(17, 16), (18, 16), (19, 16), (21, 16), (22, 16), (21, 20), (22, 20)] [some 89, some 90, some 91, some 92, some 93, some 94, some 95, some 96, some 97, some 98, some 99, some 100, some 101, some 102, some 103, some 104, some 105, some 88, some 106, some 107, some 22, none, some 23] ⟨fun w_ => True, fun _ => False, fun g_ w_ => True, fun g_ => fun _ => False, fun p_ w_ => Blk w_ p_ 68 (fun _ => 0), fun g_ p_ w_ => Blk w_ p_ 68 (cpB (decTo g h Q 0 (plN W 0) L (plOff W H 0) (frTo g h Q W H L 0) i0) g h 0 (4 * pX (plN W 0) i0) (4 * pY (plN W 0) i0) (L.getD (plOff W H 0 + i0) ⟨0, 0, 0, 0, 0, fun _ => 0⟩))⟩ (fun _ => False) (fun p_ => w720.heap.size ≤ p_) [fun g_ => .agg #[iv ((decTo g h Q 0 (plN W 0) L (plOff W H 0) (frTo g h Q W H L 0) i0).W), iv ((decTo g h Q 0 (plN W 0) L (plOff W H 0) (frTo g h Q W H L 0) i0).H), a0, b0, c0], fun g_ => .agg #[iv (g.W), iv (g.H), g0, g1, g2], fun g_ => .agg #[iv (h.W), iv (h.H), h0, h1, h2], fun g_ => iv 0, fun g_ => iv ((i0 : Nat) : Int), fun g_ => iv ((plN W 0 : Nat) : Int), fun g_ => iv (pX (plN W 0) i0), fun g_ => iv (4 * pX (plN W 0) i0), fun g_ => iv ((i0 : Nat) : Int), fun g_ => iv ((plN W 0 : Nat) : Int), fun g_ => iv (pY (plN W 0) i0), fun g_ => iv (4 * pY (plN W 0) i0), fun g_ => v413, fun g_ => iv (((plOff W H 0 + i0) : Nat) : Int), fun g_ => bytAddr v413 ((plOff W H 0 + i0) * 21), fun g_ => .agg (chW (L.getD (plOff W H 0 + i0) ⟨0, 0, 0, 0, 0, fun _ => 0⟩)).toArray, fun g_ => .tuple #[blkV (cpB (decTo g h Q 0 (plN W 0) L (plOff W H 0) (frTo g h Q W H L 0) i0) g h 0 (4 * pX (plN W 0) i0) (4 * pY (plN W 0) i0) (L.getD (plOff W H 0 + i0) ⟨0, 0, 0, 0, 0, fun _ => 0⟩)), iv (cpE (decTo g h Q 0 (plN W 0) L (plOff W H 0) (frTo g h Q W H L 0) i0) g h 0 (4 * pX (plN W 0) i0) (4 * pY (plN W 0) i0) (L.getD (plOff W H 0 + i0) ⟨0, 0, 0, 0, 0, fun _ => 0⟩))], fun g_ => .tuple #[blkV (cpB (decTo g h Q 0 (plN W 0) L (plOff W H 0) (frTo g h Q W H L 0) i0) g h 0 (4 * pX (plN W 0) i0) (4 * pY (plN W 0) i0) (L.getD (plOff W H 0 + i0) ⟨0, 0, 0, 0, 0, fun _ => 0⟩)), iv (cpE (decTo g h Q 0 (plN W 0) L (plOff W H 0) (frTo g h Q W H L 0) i0) g h 0 (4 * pX (plN W 0) i0) (4 * pY (plN W 0) i0) (L.getD (plOff W H 0 + i0) ⟨0, 0, 0, 0, 0, fun _ => 0⟩))], fun g_ => blkV (cpB (decTo g h Q 0 (plN W 0) L (plOff W H 0) (frTo g h Q W H L 0) i0) g h 0 (4 * pX (plN W 0) i0) (4 * pY (plN W 0) i0) (L.getD (plOff W H 0 + i0) ⟨0, 0, 0, 0, 0, fun _ => 0⟩)), fun g_ => iv (cpE (decTo g h Q 0 (plN W 0) L (plOff W H 0) (frTo g h Q W H L 0) i0) g h 0 (4 * pX (plN W 0) i0) (4 * pY (plN W 0) i0) (L.getD (plOff W H 0 + i0) ⟨0, 0, 0, 0, 0, fun _ => 0⟩)), fun _ => undef, fun _ => undef, fun g_ => iv (cpE (decTo g h Q 0 (plN W 0) L (plOff W H 0) (frTo g h Q W H L 0) i0) g h 0 (4 * pX (plN W 0) i0) (4 * pY (plN W 0) i0) (L.getD (plOff W H 0 + i0) ⟨0, 0, 0, 0, 0, fun _ => 0⟩))] 16 21 (some 20) () 0 (by kernel_rfl) (by kernel_rfl) (by kernel_rfl) (by kernel_rfl) ⟨.inr (.inr fun _ _ => rfl), ⟨.inr (.inr fun _ _ => rfl), ⟨.inr (.inr fun _ _ => rfl), ⟨.inr (.inr fun _ _ => rfl), ⟨.inr (.inr fun _ _ => rfl), ⟨.inr (.inr fun _ _ => rfl), ⟨.inr (.inr fun _ _ => rfl), ⟨.inr (.inr fun _ _ => rfl), ⟨.inr (.inr fun _ _ => rfl), ⟨.inr (.inr fun _ _ => rfl), ⟨.inr (.inr fun _ _ => rfl), ⟨.inr (.inr fun _ _ => rfl), ⟨.inr (.inr fun _ _ => rfl), ⟨.inr (.inr fun _ _ => rfl), ⟨.inr (.inr fun _ _ => rfl), ⟨.inr (.inr fun _ _ => rfl), ⟨.inr (.inl rfl), ⟨.inl rfl, ⟨.inl rfl, ⟨.inl rfl, ⟨.inr (.inr fun _ _ => rfl), ⟨.inl rfl, ⟨.inl rfl, trivial⟩⟩⟩⟩⟩⟩⟩⟩⟩⟩⟩⟩⟩⟩⟩⟩⟩⟩⟩⟩⟩⟩⟩ ⟨trivial, fun _ _ _ _ _ _ => trivial, fun _ _ _ z => z.elim, fun _ _ _ _ _ _ _ => trivial, fun _ _ _ _ z => z.elim, fun _ _ _ _ h k z => h.all k z, fun _ _ h => h.lt, fun _ _ _ _ _ h k z => h.all k z, fun _ z => z, fun _ h => .inr h, fun _ _ z => z⟩ (fun _ _ _ h => h) (fun e => by cases e) ?_ ?_
       ·refine stepsFX_cons ?_ ?_
        ·refine StepFX.one rfl rfl rfl rfl fun g_ p_ F_ w_ hR hout hD => ?_
         exact (y_load_stc stcT_frame rfl ((hout 16 rfl (by decide)).trans s810) (B750.all hR id) ⟨rfl, Kept.refl _ _⟩)
        refine stepsFX_cons ?_ ?_
        ·refine StepFX.one rfl rfl rfl rfl fun g_ p_ F_ w_ hR hout hD => ?_
         exact (y_load_stc stcT_frame rfl ((hout 8 rfl (by decide)).trans s806) (B746.all hR id) ⟨rfl, Kept.refl _ _⟩)
        refine stepsFX_cons ?_ ?_
        ·refine StepFX.one rfl rfl rfl rfl fun g_ p_ F_ w_ hR hout hD => ?_
         exact (y_load_stc stcT_frame rfl ((hout 9 rfl (by decide)).trans s807) (B747.all hR id) ⟨rfl, Kept.refl _ _⟩)
        refine stepsFX_cons ?_ ?_
        ·refine StepFX.one rfl rfl rfl rfl fun g_ p_ F_ w_ hR hout hD => ?_
         exact (y_mov rfl ((hout 18 rfl (by decide)).trans s811) ⟨rfl, Kept.refl _ _⟩)
        refine stepsFX_cons ?_ ?_
        ·refine StepFX.one rfl rfl rfl rfl fun g_ p_ F_ w_ hR hout hD => ?_
         exact (y_mov rfl ((hout 21 rfl (by decide)).trans s816) ⟨rfl, Kept.refl _ _⟩)
        refine stepsFX_cons ?_ ?_
        ·refine StepFX.one rfl rfl rfl rfl fun g_ p_ F_ w_ hR hout hD => ?_
         exact (y_mov rfl ((hout 19 rfl (by decide)).trans s812) ⟨rfl, Kept.refl _ _⟩)
        refine stepsFX_cons ?_ ?_
        ·refine StepFX.one rfl rfl rfl rfl fun g_ p_ F_ w_ hR hout hD => ?_
         have g93 : F_ 93 = iv ((i0 : Nat) : Int) := (hD.get 0 rfl rfl rfl).2 (by decide)
         have g94 : F_ 94 = iv ((plN W 0 : Nat) : Int) := (hD.get 1 rfl rfl rfl).2 (by decide)
         exact (y_rem rfl g93 g94 (by first | decide | omega) (rem_nat i0 (plN W 0)) ⟨rfl, Kept.refl _ _⟩)
        refine stepsFX_cons ?_ ?_
        ·refine StepFX.one rfl rfl rfl rfl fun g_ p_ F_ w_ hR hout hD => ?_
         have g95 : F_ 95 = iv (pX (plN W 0) i0) := (hD.get 0 rfl rfl rfl).2 (by decide)
         exact (y_mul rfl rfl g95 (i64_i rfl (by omega)) ⟨rfl, Kept.refl _ _⟩)
        refine stepsFX_cons ?_ ?_
        ·refine StepFX.one rfl rfl rfl rfl fun g_ p_ F_ w_ hR hout hD => ?_
         exact (y_mov rfl ((hout 21 rfl (by decide)).trans s816) ⟨rfl, Kept.refl _ _⟩)
        refine stepsFX_cons ?_ ?_
        ·refine StepFX.one rfl rfl rfl rfl fun g_ p_ F_ w_ hR hout hD => ?_
         exact (y_mov rfl ((hout 19 rfl (by decide)).trans s812) ⟨rfl, Kept.refl _ _⟩)
        refine stepsFX_cons ?_ ?_
        ·refine StepFX.one rfl rfl rfl rfl fun g_ p_ F_ w_ hR hout hD => ?_
         have g97 : F_ 97 = iv ((i0 : Nat) : Int) := (hD.get 0 rfl rfl rfl).2 (by decide)
         have g98 : F_ 98 = iv ((plN W 0 : Nat) : Int) := (hD.get 1 rfl rfl rfl).2 (by decide)
         exact (y_quo rfl g97 g98 (by first | decide | omega) (i64_n (quo_nat i0 (plN W 0)) (by omega)) ⟨rfl, Kept.refl _ _⟩)
        refine stepsFX_cons ?_ ?_
        ·refine StepFX.one rfl rfl rfl rfl fun g_ p_ F_ w_ hR hout hD => ?_
         have g99 : F_ 99 = iv (pY (plN W 0) i0) := (hD.get 0 rfl rfl rfl).2 (by decide)
         exact (y_mul rfl rfl g99 (i64_i rfl (by omega)) ⟨rfl, Kept.refl _ _⟩)
        refine stepsFX_cons ?_ ?_
        ·refine StepFX.one rfl rfl rfl rfl fun g_ p_ F_ w_ hR hout hD => ?_
         exact (y_mov rfl ((hout 14 rfl (by decide)).trans s809) ⟨rfl, Kept.refl _ _⟩)
        refine stepsFX_cons ?_ ?_
        ·refine StepFX.one rfl rfl rfl rfl fun g_ p_ F_ w_ hR hout hD => ?_
         exact (y_mov rfl ((hout 17 rfl (by decide)).trans s815) ⟨rfl, Kept.refl _ _⟩)
        refine stepsFX_cons ?_ ?_
        ·refine StepFX.one rfl rfl rfl rfl fun g_ p_ F_ w_ hR hout hD => ?_
         have g101 : F_ 101 = v413 := (hD.get 0 rfl rfl rfl).2 (by decide)
         have g102 : F_ 102 = iv (((plOff W H 0 + i0) : Nat) : Int) := (hD.get 1 rfl rfl rfl).2 (by decide)
         exact (y_atRo (r := rCh) (plOff W H 0 + i0) rfl g101 g102 (by omega) (B749.all hR Apart.none).roa (by rw [hlo0]; exact off_lt (by decide) (by omega)) ⟨rfl, Kept.refl _ _⟩)
        refine stepsFX_cons ?_ ?_
        ·refine StepFX.one rfl rfl rfl rfl fun g_ p_ F_ w_ hR hout hD => ?_
         have g103 : F_ 103 = bytAddr v413 ((plOff W H 0 + i0) * 21) := (hD.get 0 rfl rfl rfl).2 (by decide)
         exact (y_ldRoP (r := rCh) (n := 21) (plOff W H 0 + i0) 0 stcT_choice rfl g103 (B749.all hR Apart.none).roa (by rw [hlo0]; exact off_lt (by decide) (by omega)) (by decide) rfl ⟨rfl, Kept.refl _ _⟩)
        refine stepsFX_cons ?_ ?_
        ·refine StepFX.call rfl rfl rfl rfl fun g_ p_ F_ w_ hR hout hD hP_ => ?_
         have g89 : F_ 89 = .agg #[iv ((decTo g h Q 0 (plN W 0) L (plOff W H 0) (frTo g h Q W H L 0) i0).W), iv ((decTo g h Q 0 (plN W 0) L (plOff W H 0) (frTo g h Q W H L 0) i0).H), a0, b0, c0] := (hD.get 0 rfl rfl rfl).2 (by decide)
         have g90 : F_ 90 = .agg #[iv (g.W), iv (g.H), g0, g1, g2] := (hD.get 1 rfl rfl rfl).2 (by decide)
         have g91 : F_ 91 = .agg #[iv (h.W), iv (h.H), h0, h1, h2] := (hD.get 2 rfl rfl rfl).2 (by decide)
         have g92 : F_ 92 = iv 0 := (hD.get 3 rfl rfl rfl).2 (by decide)
         have g96 : F_ 96 = iv (4 * pX (plN W 0) i0) := (hD.get 4 rfl rfl rfl).2 (by decide)
         have g100 : F_ 100 = iv (4 * pY (plN W 0) i0) := (hD.get 5 rfl rfl rfl).2 (by decide)
         have g104 : F_ 104 = .agg (chW (L.getD (plOff W H 0 + i0) ⟨0, 0, 0, 0, 0, fun _ => 0⟩)).toArray := (hD.get 6 rfl rfl rfl).2 (by decide)
         exact (y_cs rfl rfl rfl (fun _ _ => by kernel_rfl) (ev_func _) (vsC g89 (vsC g90 (vsC g91 (vsC g92 (vsC g96 (vsC g100 (vsC g104 vsN))))))) (bref_predict 0 (4 * pX (plN W 0) i0) (4 * pY (plN W 0) i0) (L.getD (plOff W H 0 + i0) ⟨0, 0, 0, 0, 0, fun _ => 0⟩) (decTo g h Q 0 (plN W 0) L (plOff W H 0) (frTo g h Q W H L 0) i0) a0 b0 c0 g g0 g1 g2 h h0 h1 h2 T716 T717 T718 T_g0 T_g1 T_g2 T_h0 T_h1 T_h2 _  (B751.all hR Apart.none).byt (B752.all hR Apart.none).byt (B753.all hR Apart.none).byt (B738.all hR Apart.none) (B739.all hR Apart.none) (B740.all hR Apart.none) (B741.all hR Apart.none) (B742.all hR Apart.none) (B743.all hR Apart.none) ) (fun e_ w_ h_ => ⟨_, h_.1, (), rfl, h_.2, trivial, fun b hb => hb.elim⟩))
        refine stepsFX_cons ?_ ?_
        ·refine StepFX.one rfl rfl rfl rfl fun g_ p_ F_ w_ hR hout hD => ?_
         have g105 : F_ 105 = .tuple #[blkV (cpB (decTo g h Q 0 (plN W 0) L (plOff W H 0) (frTo g h Q W H L 0) i0) g h 0 (4 * pX (plN W 0) i0) (4 * pY (plN W 0) i0) (L.getD (plOff W H 0 + i0) ⟨0, 0, 0, 0, 0, fun _ => 0⟩)), iv (cpE (decTo g h Q 0 (plN W 0) L (plOff W H 0) (frTo g h Q W H L 0) i0) g h 0 (4 * pX (plN W 0) i0) (4 * pY (plN W 0) i0) (L.getD (plOff W H 0 + i0) ⟨0, 0, 0, 0, 0, fun _ => 0⟩))] := (hD.get 0 rfl rfl rfl).2 (by decide)
         exact (y_mov rfl g105 ⟨rfl, Kept.refl _ _⟩)
        refine stepsFX_cons ?_ ?_
        ·refine StepFX.one rfl rfl rfl rfl fun g_ p_ F_ w_ hR hout hD => ?_
         have g88 : F_ 88 = .tuple #[blkV (cpB (decTo g h Q 0 (plN W 0) L (plOff W H 0) (frTo g h Q W H L 0) i0) g h 0 (4 * pX (plN W 0) i0) (4 * pY (plN W 0) i0) (L.getD (plOff W H 0 + i0) ⟨0, 0, 0, 0, 0, fun _ => 0⟩)), iv (cpE (decTo g h Q 0 (plN W 0) L (plOff W H 0) (frTo g h Q W H L 0) i0) g h 0 (4 * pX (plN W 0) i0) (4 * pY (plN W 0) i0) (L.getD (plOff W H 0 + i0) ⟨0, 0, 0, 0, 0, fun _ => 0⟩))] := (hD.get 0 rfl rfl rfl).2 (by decide)
         exact (y_ext rfl g88 rfl ⟨rfl, Kept.refl _ _⟩)
        refine stepsFX_cons ?_ ?_
        ·refine StepFX.one rfl rfl rfl rfl fun g_ p_ F_ w_ hR hout hD => ?_
         have g88 : F_ 88 = .tuple #[blkV (cpB (decTo g h Q 0 (plN W 0) L (plOff W H 0) (frTo g h Q W H L 0) i0) g h 0 (4 * pX (plN W 0) i0) (4 * pY (plN W 0) i0) (L.getD (plOff W H 0 + i0) ⟨0, 0, 0, 0, 0, fun _ => 0⟩)), iv (cpE (decTo g h Q 0 (plN W 0) L (plOff W H 0) (frTo g h Q W H L 0) i0) g h 0 (4 * pX (plN W 0) i0) (4 * pY (plN W 0) i0) (L.getD (plOff W H 0 + i0) ⟨0, 0, 0, 0, 0, fun _ => 0⟩))] := (hD.get 0 rfl rfl rfl).2 (by decide)
         exact (y_ext rfl g88 rfl ⟨rfl, Kept.refl _ _⟩)
        refine stepsFX_cons ?_ ?_
        ·refine StepFX.alloc rfl rfl rfl rfl fun F_ w_ hR => ?_
         exact y_alloc_blkP rfl blkT_arr.2.2 ⟨_, rfl, Nat.le_refl _, Blk.new _ _ _, (Kept.refl _ _).alloc _⟩
        refine stepsFX_cons ?_ ?_
        ·refine StepFX.store rfl rfl rfl rfl fun g_ p_ F_ w_ hR hout hD hO_ hZ_ hQ_ => ?_
         have g22 : F_ 22 = pt p_ 0 := (hD.get 0 rfl rfl rfl).1 rfl
         have g106 : F_ 106 = blkV (cpB (decTo g h Q 0 (plN W 0) L (plOff W H 0) (frTo g h Q W H L 0) i0) g h 0 (4 * pX (plN W 0) i0) (4 * pY (plN W 0) i0) (L.getD (plOff W H 0 + i0) ⟨0, 0, 0, 0, 0, fun _ => 0⟩)) := (hD.get 1 rfl rfl rfl).2 (by decide)
         exact y_storeBlk blkT_arr.2.1 rfl g22 g106 hZ_ fun w2_ b_ k_ => ⟨rfl, k_, b_⟩
        refine stepsFX_cons ?_ ?_
        ·refine StepFX.one rfl rfl rfl rfl fun g_ p_ F_ w_ hR hout hD => ?_
         have g107 : F_ 107 = iv (cpE (decTo g h Q 0 (plN W 0) L (plOff W H 0) (frTo g h Q W H L 0) i0) g h 0 (4 * pX (plN W 0) i0) (4 * pY (plN W 0) i0) (L.getD (plOff W H 0 + i0) ⟨0, 0, 0, 0, 0, fun _ => 0⟩)) := (hD.get 0 rfl rfl rfl).2 (by decide)
         exact (y_asg rfl g107 ⟨rfl, Kept.refl _ _⟩)
        exact stepsFX_nil
       intro gg819 p820 v821 F822 w823 k824 hp825 hQ826 hG827 hY828 hN829 hA830 hV831 hF832
       have B833 := B737.all k824 Apart.none
       have B834 := B738.all k824 Apart.none
       have B835 := B739.all k824 Apart.none
       have B836 := B740.all k824 Apart.none
       have B837 := B741.all k824 Apart.none
       have B838 := B742.all k824 Apart.none
       have B839 := B743.all k824 Apart.none
       have B840 := B744.all k824 id
       have B841 := B745.all k824 id
       have B842 := B746.all k824 id
       have B843 := B747.all k824 id
       have B844 := B748.all k824 id
       have B845 := B749.all k824 Apart.none
       have B846 := B750.all k824 id
       have B847 := B751.all k824 Apart.none
       have B848 := B752.all k824 Apart.none
       have B849 := B753.all k824 Apart.none
       have K850 := K721.tr k824
       replace hY828 : Blk w823 p820 68 (cpB (decTo g h Q 0 (plN W 0) L (plOff W H 0) (frTo g h Q W H L 0) i0) g h 0 (4 * pX (plN W 0) i0) (4 * pY (plN W 0) i0) (L.getD (plOff W H 0 + i0) ⟨0, 0, 0, 0, 0, fun _ => 0⟩)) := hY828
       obtain ⟨s869, s870, s871, s872, s873, s874, s875, s876, s877, s878, s879, s880, s881⟩ := t13 hF832 5 s804 6 s805 8 s806 9 s807 10 s808 14 s809 16 s810 18 s811 19 s812 20 s813 134 s814 17 s815 21 s816
       have s882 : F822 22 = pt p820 0 := (hF832 22).trans (hA830 20 rfl)
       clear hF832 hV831 hA830 hN829 hG827
       refine then_normal (wq_seq ?_)
       refine wq_cas (γ := Unit) [(8, 7), (9, 7), (10, 7), (12, 7), (13, 7), (12, 11), (13, 11)] [some 109, some 110, some 111, some 112, some 113, some 114, some 115, some 116, some 108, some 117, some 118, some 24, none, some 25] ⟨fun w_ => True, fun _ => False, fun g_ w_ => True, fun g_ => fun _ => False, fun p_ w_ => Blk w_ p_ 68 (fun _ => 0), fun g_ p_ w_ => Blk w_ p_ 68 (buB (cpB (decTo g h Q 0 (plN W 0) L (plOff W H 0) (frTo g h Q W H L 0) i0) g h 0 (4 * pX (plN W 0) i0) (4 * pY (plN W 0) i0) (L.getD (plOff W H 0 + i0) ⟨0, 0, 0, 0, 0, fun _ => 0⟩)) (L.getD (plOff W H 0 + i0) ⟨0, 0, 0, 0, 0, fun _ => 0⟩).b Q)⟩ (fun _ => False) (fun p_ => w823.heap.size ≤ p_) [fun g_ => blkV (cpB (decTo g h Q 0 (plN W 0) L (plOff W H 0) (frTo g h Q W H L 0) i0) g h 0 (4 * pX (plN W 0) i0) (4 * pY (plN W 0) i0) (L.getD (plOff W H 0 + i0) ⟨0, 0, 0, 0, 0, fun _ => 0⟩)), fun g_ => v413, fun g_ => iv (((plOff W H 0 + i0) : Nat) : Int), fun g_ => bytAddr v413 ((plOff W H 0 + i0) * 21), fun g_ => .agg (chW (L.getD (plOff W H 0 + i0) ⟨0, 0, 0, 0, 0, fun _ => 0⟩)).toArray, fun g_ => pt p22 1, fun g_ => iv Q, fun g_ => .tuple #[blkV (buB (cpB (decTo g h Q 0 (plN W 0) L (plOff W H 0) (frTo g h Q W H L 0) i0) g h 0 (4 * pX (plN W 0) i0) (4 * pY (plN W 0) i0) (L.getD (plOff W H 0 + i0) ⟨0, 0, 0, 0, 0, fun _ => 0⟩)) (L.getD (plOff W H 0 + i0) ⟨0, 0, 0, 0, 0, fun _ => 0⟩).b Q), iv (ern Q)], fun g_ => .tuple #[blkV (buB (cpB (decTo g h Q 0 (plN W 0) L (plOff W H 0) (frTo g h Q W H L 0) i0) g h 0 (4 * pX (plN W 0) i0) (4 * pY (plN W 0) i0) (L.getD (plOff W H 0 + i0) ⟨0, 0, 0, 0, 0, fun _ => 0⟩)) (L.getD (plOff W H 0 + i0) ⟨0, 0, 0, 0, 0, fun _ => 0⟩).b Q), iv (ern Q)], fun g_ => blkV (buB (cpB (decTo g h Q 0 (plN W 0) L (plOff W H 0) (frTo g h Q W H L 0) i0) g h 0 (4 * pX (plN W 0) i0) (4 * pY (plN W 0) i0) (L.getD (plOff W H 0 + i0) ⟨0, 0, 0, 0, 0, fun _ => 0⟩)) (L.getD (plOff W H 0 + i0) ⟨0, 0, 0, 0, 0, fun _ => 0⟩).b Q), fun g_ => iv (ern Q), fun _ => undef, fun _ => undef, fun g_ => iv (ern Q)] 7 12 (some 11) () 0 (by kernel_rfl) (by kernel_rfl) (by kernel_rfl) (by kernel_rfl) ⟨.inr (.inr fun _ _ => rfl), ⟨.inr (.inr fun _ _ => rfl), ⟨.inr (.inr fun _ _ => rfl), ⟨.inr (.inr fun _ _ => rfl), ⟨.inr (.inr fun _ _ => rfl), ⟨.inr (.inr fun _ _ => rfl), ⟨.inr (.inr fun _ _ => rfl), ⟨.inr (.inl rfl), ⟨.inl rfl, ⟨.inl rfl, ⟨.inl rfl, ⟨.inr (.inr fun _ _ => rfl), ⟨.inl rfl, ⟨.inl rfl, trivial⟩⟩⟩⟩⟩⟩⟩⟩⟩⟩⟩⟩⟩⟩ ⟨trivial, fun _ _ _ _ _ _ => trivial, fun _ _ _ z => z.elim, fun _ _ _ _ _ _ _ => trivial, fun _ _ _ _ z => z.elim, fun _ _ _ _ h k z => h.all k z, fun _ _ h => h.lt, fun _ _ _ _ _ h k z => h.all k z, fun _ z => z, fun _ h => .inr h, fun _ _ z => z⟩ (fun _ _ _ h => h) (fun e => by cases e) ?_ ?_
       ·refine stepsFX_cons ?_ ?_
        ·refine StepFX.one rfl rfl rfl rfl fun g_ p_ F_ w_ hR hout hD => ?_
         exact (y_load_blk blkT_arr rfl ((hout 22 rfl (by decide)).trans s882) (hY828.all hR id) ⟨rfl, Kept.refl _ _⟩)
        refine stepsFX_cons ?_ ?_
        ·refine StepFX.one rfl rfl rfl rfl fun g_ p_ F_ w_ hR hout hD => ?_
         exact (y_mov rfl ((hout 14 rfl (by decide)).trans s874) ⟨rfl, Kept.refl _ _⟩)
        refine stepsFX_cons ?_ ?_
        ·refine StepFX.one rfl rfl rfl rfl fun g_ p_ F_ w_ hR hout hD => ?_
         exact (y_mov rfl ((hout 17 rfl (by decide)).trans s880) ⟨rfl, Kept.refl _ _⟩)
        refine stepsFX_cons ?_ ?_
        ·refine StepFX.one rfl rfl rfl rfl fun g_ p_ F_ w_ hR hout hD => ?_
         have g110 : F_ 110 = v413 := (hD.get 0 rfl rfl rfl).2 (by decide)
         have g111 : F_ 111 = iv (((plOff W H 0 + i0) : Nat) : Int) := (hD.get 1 rfl rfl rfl).2 (by decide)
         exact (y_atRo (r := rCh) (plOff W H 0 + i0) rfl g110 g111 (by omega) (B845.all hR Apart.none).roa (by rw [hlo0]; exact off_lt (by decide) (by omega)) ⟨rfl, Kept.refl _ _⟩)
        refine stepsFX_cons ?_ ?_
        ·refine StepFX.one rfl rfl rfl rfl fun g_ p_ F_ w_ hR hout hD => ?_
         have g112 : F_ 112 = bytAddr v413 ((plOff W H 0 + i0) * 21) := (hD.get 0 rfl rfl rfl).2 (by decide)
         exact (y_ldRoP (r := rCh) (n := 21) (plOff W H 0 + i0) 0 stcT_choice rfl g112 (B845.all hR Apart.none).roa (by rw [hlo0]; exact off_lt (by decide) (by omega)) (by decide) rfl ⟨rfl, Kept.refl _ _⟩)
        refine stepsFX_cons ?_ ?_
        ·refine StepFX.one rfl rfl rfl rfl fun g_ p_ F_ w_ hR hout hD => ?_
         exact (y_fieldR (n := 1) rfl ((hout 6 rfl (by decide)).trans s870) Tryz.underlying25 rfl (by kernel_rfl) (by decide) rfl ⟨rfl, Kept.refl _ _⟩)
        refine stepsFX_cons ?_ ?_
        ·refine StepFX.one rfl rfl rfl rfl fun g_ p_ F_ w_ hR hout hD => ?_
         have g114 : F_ 114 = pt p22 1 := (hD.get 0 rfl rfl rfl).2 (by decide)
         exact (y_ld_stc rfl g114 Tryz.underlying3 (B841.all hR id) rfl rfl ⟨rfl, Kept.refl _ _⟩)
        refine stepsFX_cons ?_ ?_
        ·refine StepFX.call rfl rfl rfl rfl fun g_ p_ F_ w_ hR hout hD hP_ => ?_
         have g109 : F_ 109 = blkV (cpB (decTo g h Q 0 (plN W 0) L (plOff W H 0) (frTo g h Q W H L 0) i0) g h 0 (4 * pX (plN W 0) i0) (4 * pY (plN W 0) i0) (L.getD (plOff W H 0 + i0) ⟨0, 0, 0, 0, 0, fun _ => 0⟩)) := (hD.get 0 rfl rfl rfl).2 (by decide)
         have g113 : F_ 113 = .agg (chW (L.getD (plOff W H 0 + i0) ⟨0, 0, 0, 0, 0, fun _ => 0⟩)).toArray := (hD.get 1 rfl rfl rfl).2 (by decide)
         have g115 : F_ 115 = iv Q := (hD.get 2 rfl rfl rfl).2 (by decide)
         exact (y_cs rfl rfl rfl (fun _ _ => by kernel_rfl) (ev_func _) (vsC g109 (vsC g113 (vsC g115 vsN))) (bref_build (cpB (decTo g h Q 0 (plN W 0) L (plOff W H 0) (frTo g h Q W H L 0) i0) g h 0 (4 * pX (plN W 0) i0) (4 * pY (plN W 0) i0) (L.getD (plOff W H 0 + i0) ⟨0, 0, 0, 0, 0, fun _ => 0⟩)) (L.getD (plOff W H 0 + i0) ⟨0, 0, 0, 0, 0, fun _ => 0⟩) Q  _   ) (fun e_ w_ h_ => ⟨_, h_.1, (), rfl, h_.2, trivial, fun b hb => hb.elim⟩))
        refine stepsFX_cons ?_ ?_
        ·refine StepFX.one rfl rfl rfl rfl fun g_ p_ F_ w_ hR hout hD => ?_
         have g116 : F_ 116 = .tuple #[blkV (buB (cpB (decTo g h Q 0 (plN W 0) L (plOff W H 0) (frTo g h Q W H L 0) i0) g h 0 (4 * pX (plN W 0) i0) (4 * pY (plN W 0) i0) (L.getD (plOff W H 0 + i0) ⟨0, 0, 0, 0, 0, fun _ => 0⟩)) (L.getD (plOff W H 0 + i0) ⟨0, 0, 0, 0, 0, fun _ => 0⟩).b Q), iv (ern Q)] := (hD.get 0 rfl rfl rfl).2 (by decide)
         exact (y_mov rfl g116 ⟨rfl, Kept.refl _ _⟩)
        refine stepsFX_cons ?_ ?_
        ·refine StepFX.one rfl rfl rfl rfl fun g_ p_ F_ w_ hR hout hD => ?_
         have g108 : F_ 108 = .tuple #[blkV (buB (cpB (decTo g h Q 0 (plN W 0) L (plOff W H 0) (frTo g h Q W H L 0) i0) g h 0 (4 * pX (plN W 0) i0) (4 * pY (plN W 0) i0) (L.getD (plOff W H 0 + i0) ⟨0, 0, 0, 0, 0, fun _ => 0⟩)) (L.getD (plOff W H 0 + i0) ⟨0, 0, 0, 0, 0, fun _ => 0⟩).b Q), iv (ern Q)] := (hD.get 0 rfl rfl rfl).2 (by decide)
         exact (y_ext rfl g108 rfl ⟨rfl, Kept.refl _ _⟩)
        refine stepsFX_cons ?_ ?_
        ·refine StepFX.one rfl rfl rfl rfl fun g_ p_ F_ w_ hR hout hD => ?_
         have g108 : F_ 108 = .tuple #[blkV (buB (cpB (decTo g h Q 0 (plN W 0) L (plOff W H 0) (frTo g h Q W H L 0) i0) g h 0 (4 * pX (plN W 0) i0) (4 * pY (plN W 0) i0) (L.getD (plOff W H 0 + i0) ⟨0, 0, 0, 0, 0, fun _ => 0⟩)) (L.getD (plOff W H 0 + i0) ⟨0, 0, 0, 0, 0, fun _ => 0⟩).b Q), iv (ern Q)] := (hD.get 0 rfl rfl rfl).2 (by decide)
         exact (y_ext rfl g108 rfl ⟨rfl, Kept.refl _ _⟩)
        refine stepsFX_cons ?_ ?_
        ·refine StepFX.alloc rfl rfl rfl rfl fun F_ w_ hR => ?_
         exact y_alloc_blkP rfl blkT_arr.2.2 ⟨_, rfl, Nat.le_refl _, Blk.new _ _ _, (Kept.refl _ _).alloc _⟩
        refine stepsFX_cons ?_ ?_
        ·refine StepFX.store rfl rfl rfl rfl fun g_ p_ F_ w_ hR hout hD hO_ hZ_ hQ_ => ?_
         have g24 : F_ 24 = pt p_ 0 := (hD.get 0 rfl rfl rfl).1 rfl
         have g117 : F_ 117 = blkV (buB (cpB (decTo g h Q 0 (plN W 0) L (plOff W H 0) (frTo g h Q W H L 0) i0) g h 0 (4 * pX (plN W 0) i0) (4 * pY (plN W 0) i0) (L.getD (plOff W H 0 + i0) ⟨0, 0, 0, 0, 0, fun _ => 0⟩)) (L.getD (plOff W H 0 + i0) ⟨0, 0, 0, 0, 0, fun _ => 0⟩).b Q) := (hD.get 1 rfl rfl rfl).2 (by decide)
         exact y_storeBlk blkT_arr.2.1 rfl g24 g117 hZ_ fun w2_ b_ k_ => ⟨rfl, k_, b_⟩
        refine stepsFX_cons ?_ ?_
        ·refine StepFX.one rfl rfl rfl rfl fun g_ p_ F_ w_ hR hout hD => ?_
         have g118 : F_ 118 = iv (ern Q) := (hD.get 0 rfl rfl rfl).2 (by decide)
         exact (y_asg rfl g118 ⟨rfl, Kept.refl _ _⟩)
        exact stepsFX_nil
       intro gg883 p884 v885 F886 w887 k888 hp889 hQ890 hG891 hY892 hN893 hA894 hV895 hF896
       have B897 := B833.all k888 Apart.none
       have B898 := B834.all k888 Apart.none
       have B899 := B835.all k888 Apart.none
       have B900 := B836.all k888 Apart.none
       have B901 := B837.all k888 Apart.none
       have B902 := B838.all k888 Apart.none
       have B903 := B839.all k888 Apart.none
       have B904 := B840.all k888 id
       have B905 := B841.all k888 id
       have B906 := B842.all k888 id
       have B907 := B843.all k888 id
       have B908 := B844.all k888 id
       have B909 := B845.all k888 Apart.none
       have B910 := B846.all k888 id
       have B911 := B847.all k888 Apart.none
       have B912 := B848.all k888 Apart.none
       have B913 := B849.all k888 Apart.none
       have K915 := K850.tr k888
       replace hY892 : Blk w887 p884 68 (buB (cpB (decTo g h Q 0 (plN W 0) L (plOff W H 0) (frTo g h Q W H L 0) i0) g h 0 (4 * pX (plN W 0) i0) (4 * pY (plN W 0) i0) (L.getD (plOff W H 0 + i0) ⟨0, 0, 0, 0, 0, fun _ => 0⟩)) (L.getD (plOff W H 0 + i0) ⟨0, 0, 0, 0, 0, fun _ => 0⟩).b Q) := hY892
       obtain ⟨s935, s936, s937, s938, s939, s940, s941, s942, s943, s944, s945, s946, s947⟩ := t13 hF896 5 s869 6 s870 8 s871 9 s872 10 s873 14 s874 16 s875 18 s876 19 s877 20 s878 134 s879 17 s880 21 s881
       have s948 : F886 24 = pt p884 0 := (hF896 24).trans (hA894 11 rfl)
       clear hF896 hV895 hA894 hN893 hG891
       refine then_normal (wq_seq ?_)
       refine wq_tail 12 [some 119, some 120, some 121, some 122, some 123, some 124, some 125, some 126, some 127, some 128, some 129, some 130] [Pd.eq (.agg #[iv ((decTo g h Q 0 (plN W 0) L (plOff W H 0) (frTo g h Q W H L 0) i0).W), iv ((decTo g h Q 0 (plN W 0) L (plOff W H 0) (frTo g h Q W H L 0) i0).H), a0, b0, c0]), Pd.eq (iv 0), Pd.eq (iv ((i0 : Nat) : Int)), Pd.eq (iv ((plN W 0 : Nat) : Int)), Pd.eq (iv (pX (plN W 0) i0)), Pd.eq (iv (4 * pX (plN W 0) i0)), Pd.eq (iv ((i0 : Nat) : Int)), Pd.eq (iv ((plN W 0 : Nat) : Int)), Pd.eq (iv (pY (plN W 0) i0)), Pd.eq (iv (4 * pY (plN W 0) i0)), Pd.eq (blkV (buB (cpB (decTo g h Q 0 (plN W 0) L (plOff W H 0) (frTo g h Q W H L 0) i0) g h 0 (4 * pX (plN W 0) i0) (4 * pY (plN W 0) i0) (L.getD (plOff W H 0 + i0) ⟨0, 0, 0, 0, 0, fun _ => 0⟩)) (L.getD (plOff W H 0 + i0) ⟨0, 0, 0, 0, 0, fun _ => 0⟩).b Q)), Pd.frmN w887.heap.size (putFr (decTo g h Q 0 (plN W 0) L (plOff W H 0) (frTo g h Q W H L 0) i0) 0 (4 * pX (plN W 0) i0) (4 * pY (plN W 0) i0) (buB (cpB (decTo g h Q 0 (plN W 0) L (plOff W H 0) (frTo g h Q W H L 0) i0) g h 0 (4 * pX (plN W 0) i0) (4 * pY (plN W 0) i0) (L.getD (plOff W H 0 + i0) ⟨0, 0, 0, 0, 0, fun _ => 0⟩)) (L.getD (plOff W H 0 + i0) ⟨0, 0, 0, 0, 0, fun _ => 0⟩).b Q))] (by kernel_rfl) (by kernel_rfl) (by kernel_rfl) ?_ ?_
       ·refine stepsF_cons ?_ ?_
        ·refine StepF.one rfl fun F_ w_ hR hout hD => ?_
         exact (y_load_stc stcT_frame rfl ((hout 16 rfl (by decide)).trans s941) (B910.all hR id) ⟨rfl, Kept.refl _ _⟩)
        refine stepsF_cons ?_ ?_
        ·refine StepF.one rfl fun F_ w_ hR hout hD => ?_
         exact (y_mov rfl ((hout 18 rfl (by decide)).trans s942) ⟨rfl, Kept.refl _ _⟩)
        refine stepsF_cons ?_ ?_
        ·refine StepF.one rfl fun F_ w_ hR hout hD => ?_
         exact (y_mov rfl ((hout 21 rfl (by decide)).trans s947) ⟨rfl, Kept.refl _ _⟩)
        refine stepsF_cons ?_ ?_
        ·refine StepF.one rfl fun F_ w_ hR hout hD => ?_
         exact (y_mov rfl ((hout 19 rfl (by decide)).trans s943) ⟨rfl, Kept.refl _ _⟩)
        refine stepsF_cons ?_ ?_
        ·refine StepF.one rfl fun F_ w_ hR hout hD => ?_
         have g121 : F_ 121 = iv ((i0 : Nat) : Int) := (hD.get 0 rfl rfl rfl)
         have g122 : F_ 122 = iv ((plN W 0 : Nat) : Int) := (hD.get 1 rfl rfl rfl)
         exact (y_rem rfl g121 g122 (by first | decide | omega) (rem_nat i0 (plN W 0)) ⟨rfl, Kept.refl _ _⟩)
        refine stepsF_cons ?_ ?_
        ·refine StepF.one rfl fun F_ w_ hR hout hD => ?_
         have g123 : F_ 123 = iv (pX (plN W 0) i0) := (hD.get 0 rfl rfl rfl)
         exact (y_mul rfl rfl g123 (i64_i rfl (by omega)) ⟨rfl, Kept.refl _ _⟩)
        refine stepsF_cons ?_ ?_
        ·refine StepF.one rfl fun F_ w_ hR hout hD => ?_
         exact (y_mov rfl ((hout 21 rfl (by decide)).trans s947) ⟨rfl, Kept.refl _ _⟩)
        refine stepsF_cons ?_ ?_
        ·refine StepF.one rfl fun F_ w_ hR hout hD => ?_
         exact (y_mov rfl ((hout 19 rfl (by decide)).trans s943) ⟨rfl, Kept.refl _ _⟩)
        refine stepsF_cons ?_ ?_
        ·refine StepF.one rfl fun F_ w_ hR hout hD => ?_
         have g125 : F_ 125 = iv ((i0 : Nat) : Int) := (hD.get 0 rfl rfl rfl)
         have g126 : F_ 126 = iv ((plN W 0 : Nat) : Int) := (hD.get 1 rfl rfl rfl)
         exact (y_quo rfl g125 g126 (by first | decide | omega) (i64_n (quo_nat i0 (plN W 0)) (by omega)) ⟨rfl, Kept.refl _ _⟩)
        refine stepsF_cons ?_ ?_
        ·refine StepF.one rfl fun F_ w_ hR hout hD => ?_
         have g127 : F_ 127 = iv (pY (plN W 0) i0) := (hD.get 0 rfl rfl rfl)
         exact (y_mul rfl rfl g127 (i64_i rfl (by omega)) ⟨rfl, Kept.refl _ _⟩)
        refine stepsF_cons ?_ ?_
        ·refine StepF.one rfl fun F_ w_ hR hout hD => ?_
         exact (y_load_blk blkT_arr rfl ((hout 24 rfl (by decide)).trans s948) (hY892.all hR id) ⟨rfl, Kept.refl _ _⟩)
        refine stepsF_cons ?_ ?_
        ·refine StepF.one rfl fun F_ w_ hR hout hD => ?_
         have g119 : F_ 119 = .agg #[iv ((decTo g h Q 0 (plN W 0) L (plOff W H 0) (frTo g h Q W H L 0) i0).W), iv ((decTo g h Q 0 (plN W 0) L (plOff W H 0) (frTo g h Q W H L 0) i0).H), a0, b0, c0] := (hD.get 0 rfl rfl rfl)
         have g120 : F_ 120 = iv 0 := (hD.get 1 rfl rfl rfl)
         have g124 : F_ 124 = iv (4 * pX (plN W 0) i0) := (hD.get 2 rfl rfl rfl)
         have g128 : F_ 128 = iv (4 * pY (plN W 0) i0) := (hD.get 3 rfl rfl rfl)
         have g129 : F_ 129 = blkV (buB (cpB (decTo g h Q 0 (plN W 0) L (plOff W H 0) (frTo g h Q W H L 0) i0) g h 0 (4 * pX (plN W 0) i0) (4 * pY (plN W 0) i0) (L.getD (plOff W H 0 + i0) ⟨0, 0, 0, 0, 0, fun _ => 0⟩)) (L.getD (plOff W H 0 + i0) ⟨0, 0, 0, 0, 0, fun _ => 0⟩).b Q) := (hD.get 4 rfl rfl rfl)
         exact (y_cs rfl rfl rfl (fun _ _ => by kernel_rfl) (ev_func _) (vsC g119 (vsC g120 (vsC g124 (vsC g128 (vsC g129 vsN))))) (fref_put 0 (4 * pX (plN W 0) i0) (4 * pY (plN W 0) i0) (buB (cpB (decTo g h Q 0 (plN W 0) L (plOff W H 0) (frTo g h Q W H L 0) i0) g h 0 (4 * pX (plN W 0) i0) (4 * pY (plN W 0) i0) (L.getD (plOff W H 0 + i0) ⟨0, 0, 0, 0, 0, fun _ => 0⟩)) (L.getD (plOff W H 0 + i0) ⟨0, 0, 0, 0, 0, fun _ => 0⟩).b Q) (decTo g h Q 0 (plN W 0) L (plOff W H 0) (frTo g h Q W H L 0) i0) a0 b0 c0 T716 T717 T718 _  (B911.all hR Apart.none).byt (B912.all hR Apart.none).byt (B913.all hR Apart.none).byt ) (fun e_ w_ h_ => by obtain ⟨a_, Ta_, b_, Tb_, c_, Tc_, he_, k_, ha_, hb_, hc_, ab_, ac_, bc_⟩ := h_; exact ⟨_, he_, ⟨a_, b_, c_, Ta_, Tb_, Tc_, rfl, ha_.1, hb_.1, hc_.1, lie_at hR ha_.2, lie_at hR hb_.2, lie_at hR hc_.2, ab_, ac_, bc_⟩, k_⟩))
        exact stepsF_nil
       intro v952 F953 w954 k955 G956 hF957
       have B959 := B897.all k955 Apart.none
       have B960 := B898.all k955 Apart.none
       have B961 := B899.all k955 Apart.none
       have B962 := B900.all k955 Apart.none
       have B963 := B901.all k955 Apart.none
       have B964 := B902.all k955 Apart.none
       have B965 := B903.all k955 Apart.none
       have B966 := B904.all k955 id
       have B967 := B905.all k955 id
       have B968 := B906.all k955 id
       have B969 := B907.all k955 id
       have B970 := B908.all k955 id
       have B971 := B909.all k955 Apart.none
       have B972 := B910.all k955 id
       have K978 := K915.tr k955
       obtain ⟨s979, s980, s981, s982, s983, s984, s985, s986, s987, s988, s989, s990, s991⟩ := t13 hF957 5 s935 6 s936 8 s937 9 s938 10 s939 14 s940 16 s941 18 s942 19 s943 20 s944 134 s945 17 s946 21 s947
       obtain ⟨v994, v995, v996, T997, T998, T999, e993, B1000, B1001, B1002, n1003, n1004, n1005, ap1006, ap1007, ap1008⟩ : FrmN w954 w887.heap.size (v952 11) (putFr (decTo g h Q 0 (plN W 0) L (plOff W H 0) (frTo g h Q W H L 0) i0) 0 (4 * pX (plN W 0) i0) (4 * pY (plN W 0) i0) (buB (cpB (decTo g h Q 0 (plN W 0) L (plOff W H 0) (frTo g h Q W H L 0) i0) g h 0 (4 * pX (plN W 0) i0) (4 * pY (plN W 0) i0) (L.getD (plOff W H 0 + i0) ⟨0, 0, 0, 0, 0, fun _ => 0⟩)) (L.getD (plOff W H 0 + i0) ⟨0, 0, 0, 0, 0, fun _ => 0⟩).b Q)) := G956 11 (by decide)
       have gr1009 : Grew w0 noB T997 := Grew.new K915 (lie_grew n1003)
       have ap1010 : Apart T997 T_b := Apart.new (lie_grew n1003) B897.live
       have ap1011 : Apart T997 T_g0 := Apart.new (lie_grew n1003) B898.live
       have ap1012 : Apart T997 T_g1 := Apart.new (lie_grew n1003) B899.live
       have ap1013 : Apart T997 T_g2 := Apart.new (lie_grew n1003) B900.live
       have ap1014 : Apart T997 T_h0 := Apart.new (lie_grew n1003) B901.live
       have ap1015 : Apart T997 T_h1 := Apart.new (lie_grew n1003) B902.live
       have ap1016 : Apart T997 T_h2 := Apart.new (lie_grew n1003) B903.live
       have ap1017 : Apart T997 (onB p1) := Apart.new (lie_grew n1003) (onB_live B904.lt)
       have ap1018 : Apart T997 (onB p22) := Apart.new (lie_grew n1003) (onB_live B905.lt)
       have ap1019 : Apart T997 (onB p45) := Apart.new (lie_grew n1003) (onB_live B906.lt)
       have ap1020 : Apart T997 (onB p70) := Apart.new (lie_grew n1003) (onB_live B907.lt)
       have ap1021 : Apart T997 (onB p97) := Apart.new (lie_grew n1003) (onB_live B908.lt)
       have ap1022 : Apart T997 T416 := Apart.new (lie_grew n1003) B909.live
       have ap1023 : Apart T997 (onB p562) := Apart.new (lie_grew n1003) (onB_live B910.lt)
       have gr1029 : Grew w0 noB T998 := Grew.new K915 (lie_grew n1004)
       have ap1030 : Apart T998 T_b := Apart.new (lie_grew n1004) B897.live
       have ap1031 : Apart T998 T_g0 := Apart.new (lie_grew n1004) B898.live
       have ap1032 : Apart T998 T_g1 := Apart.new (lie_grew n1004) B899.live
       have ap1033 : Apart T998 T_g2 := Apart.new (lie_grew n1004) B900.live
       have ap1034 : Apart T998 T_h0 := Apart.new (lie_grew n1004) B901.live
       have ap1035 : Apart T998 T_h1 := Apart.new (lie_grew n1004) B902.live
       have ap1036 : Apart T998 T_h2 := Apart.new (lie_grew n1004) B903.live
       have ap1037 : Apart T998 (onB p1) := Apart.new (lie_grew n1004) (onB_live B904.lt)
       have ap1038 : Apart T998 (onB p22) := Apart.new (lie_grew n1004) (onB_live B905.lt)
       have ap1039 : Apart T998 (onB p45) := Apart.new (lie_grew n1004) (onB_live B906.lt)
       have ap1040 : Apart T998 (onB p70) := Apart.new (lie_grew n1004) (onB_live B907.lt)
       have ap1041 : Apart T998 (onB p97) := Apart.new (lie_grew n1004) (onB_live B908.lt)
       have ap1042 : Apart T998 T416 := Apart.new (lie_grew n1004) B909.live
       have ap1043 : Apart T998 (onB p562) := Apart.new (lie_grew n1004) (onB_live B910.lt)
       have gr1049 : Grew w0 noB T999 := Grew.new K915 (lie_grew n1005)
       have ap1050 : Apart T999 T_b := Apart.new (lie_grew n1005) B897.live
       have ap1051 : Apart T999 T_g0 := Apart.new (lie_grew n1005) B898.live
       have ap1052 : Apart T999 T_g1 := Apart.new (lie_grew n1005) B899.live
       have ap1053 : Apart T999 T_g2 := Apart.new (lie_grew n1005) B900.live
       have ap1054 : Apart T999 T_h0 := Apart.new (lie_grew n1005) B901.live
       have ap1055 : Apart T999 T_h1 := Apart.new (lie_grew n1005) B902.live
       have ap1056 : Apart T999 T_h2 := Apart.new (lie_grew n1005) B903.live
       have ap1057 : Apart T999 (onB p1) := Apart.new (lie_grew n1005) (onB_live B904.lt)
       have ap1058 : Apart T999 (onB p22) := Apart.new (lie_grew n1005) (onB_live B905.lt)
       have ap1059 : Apart T999 (onB p45) := Apart.new (lie_grew n1005) (onB_live B906.lt)
       have ap1060 : Apart T999 (onB p70) := Apart.new (lie_grew n1005) (onB_live B907.lt)
       have ap1061 : Apart T999 (onB p97) := Apart.new (lie_grew n1005) (onB_live B908.lt)
       have ap1062 : Apart T999 T416 := Apart.new (lie_grew n1005) B909.live
       have ap1063 : Apart T999 (onB p562) := Apart.new (lie_grew n1005) (onB_live B910.lt)
       have s992 : F953 130 = .agg #[iv ((putFr (decTo g h Q 0 (plN W 0) L (plOff W H 0) (frTo g h Q W H L 0) i0) 0 (4 * pX (plN W 0) i0) (4 * pY (plN W 0) i0) (buB (cpB (decTo g h Q 0 (plN W 0) L (plOff W H 0) (frTo g h Q W H L 0) i0) g h 0 (4 * pX (plN W 0) i0) (4 * pY (plN W 0) i0) (L.getD (plOff W H 0 + i0) ⟨0, 0, 0, 0, 0, fun _ => 0⟩)) (L.getD (plOff W H 0 + i0) ⟨0, 0, 0, 0, 0, fun _ => 0⟩).b Q)).W), iv ((putFr (decTo g h Q 0 (plN W 0) L (plOff W H 0) (frTo g h Q W H L 0) i0) 0 (4 * pX (plN W 0) i0) (4 * pY (plN W 0) i0) (buB (cpB (decTo g h Q 0 (plN W 0) L (plOff W H 0) (frTo g h Q W H L 0) i0) g h 0 (4 * pX (plN W 0) i0) (4 * pY (plN W 0) i0) (L.getD (plOff W H 0 + i0) ⟨0, 0, 0, 0, 0, fun _ => 0⟩)) (L.getD (plOff W H 0 + i0) ⟨0, 0, 0, 0, 0, fun _ => 0⟩).b Q)).H), v994, v995, v996] := (hF957 130).trans e993
       clear G956 hF957
       refine wl_store_stc (us := [iv ((putFr (decTo g h Q 0 (plN W 0) L (plOff W H 0) (frTo g h Q W H L 0) i0) 0 (4 * pX (plN W 0) i0) (4 * pY (plN W 0) i0) (buB (cpB (decTo g h Q 0 (plN W 0) L (plOff W H 0) (frTo g h Q W H L 0) i0) g h 0 (4 * pX (plN W 0) i0) (4 * pY (plN W 0) i0) (L.getD (plOff W H 0 + i0) ⟨0, 0, 0, 0, 0, fun _ => 0⟩)) (L.getD (plOff W H 0 + i0) ⟨0, 0, 0, 0, 0, fun _ => 0⟩).b Q)).W), iv ((putFr (decTo g h Q 0 (plN W 0) L (plOff W H 0) (frTo g h Q W H L 0) i0) 0 (4 * pX (plN W 0) i0) (4 * pY (plN W 0) i0) (buB (cpB (decTo g h Q 0 (plN W 0) L (plOff W H 0) (frTo g h Q W H L 0) i0) g h 0 (4 * pX (plN W 0) i0) (4 * pY (plN W 0) i0) (L.getD (plOff W H 0 + i0) ⟨0, 0, 0, 0, 0, fun _ => 0⟩)) (L.getD (plOff W H 0 + i0) ⟨0, 0, 0, 0, 0, fun _ => 0⟩).b Q)).H), v994, v995, v996]) stcT_frame rfl rfl rfl s985 s992 B972 rfl (oneI rfl (oneI rfl (oneI B1000.one (oneI B1001.one (oneI B1002.one oneN))))) fun w1069 B1070 k1071 => ?_
       have B1072 := B959.all k1071 ap568.symm
       have B1073 := B960.all k1071 ap569.symm
       have B1074 := B961.all k1071 ap570.symm
       have B1075 := B962.all k1071 ap571.symm
       have B1076 := B963.all k1071 ap572.symm
       have B1077 := B964.all k1071 ap573.symm
       have B1078 := B965.all k1071 ap574.symm
       have B1079 := B966.all k1071 (ap575.symm p1 rfl)
       have B1080 := B967.all k1071 (ap576.symm p22 rfl)
       have B1081 := B968.all k1071 (ap577.symm p45 rfl)
       have B1082 := B969.all k1071 (ap578.symm p70 rfl)
       have B1083 := B970.all k1071 (ap579.symm p97 rfl)
       have B1084 := B971.all k1071 ap580.symm
       have B1090 := B1000.all k1071 ap1023
       have B1091 := B1001.all k1071 ap1043
       have B1092 := B1002.all k1071 ap1063
       have K1093 := K978.trans k1071 (Grew.ok (S := fun _ => False) gr567 noB_le)
       refine wl_nil fun F1094 hF1095 => ?_
       obtain ⟨s1096, s1097, s1098, s1099, s1100, s1101, s1102, s1103, s1104, s1105, s1106, s1107, s1108⟩ := t13 hF1095 5 s979 6 s980 8 s981 9 s982 10 s983 14 s984 16 s985 18 s986 19 s987 20 s988 134 s989 17 s990 21 s991
       clear hF1095
       refine then_normal (wq_region (wl_mv rfl rfl rfl s1107 (wl_v (iv (((plOff W H 0 + i0) + 1 : Nat) : Int)) rfl rfl (y_add rfl rfl rfl (i64_n (by omega) (by omega)) rr) (wl_v (iv (((plOff W H 0 + i0) + 1 : Nat) : Int)) rfl rfl (y_asg rfl rfl rr) (wl_nil fun F1109 hF1110 => ?_)))))
       obtain ⟨s1111, s1112, s1113, s1114, s1115, s1116, s1117, s1118, s1119, s1120, s1121, s1122⟩ := t12 hF1110 5 s1096 6 s1097 8 s1098 9 s1099 10 s1100 14 s1101 16 s1102 18 s1103 19 s1104 20 s1105 134 s1106 21 s1108
       have s1123 : F1109 17 = iv (((plOff W H 0 + i0) + 1 : Nat) : Int) := (hF1110 17).trans rfl
       clear hF1110
       refine in_normal (then_normal (wq_region (wl_mv rfl rfl rfl s1122 (wl_v (iv ((i0 + 1 : Nat) : Int)) rfl rfl (y_add rfl rfl rfl (i64_n (by omega) (by omega)) rr) (wl_v (iv ((i0 + 1 : Nat) : Int)) rfl rfl (y_asg rfl rfl rr) (wl_nil fun F1124 hF1125 => ?_))))))
       obtain ⟨s1126, s1127, s1128, s1129, s1130, s1131, s1132, s1133, s1134, s1135, s1136, s1137⟩ := t12 hF1125 5 s1111 6 s1112 8 s1113 9 s1114 10 s1115 14 s1116 16 s1117 18 s1118 19 s1119 20 s1120 134 s1121 17 s1123
       have s1138 : F1124 21 = iv ((i0 + 1 : Nat) : Int) := (hF1125 21).trans rfl
       clear hF1125
       exact then_normal ⟨((plN W 0 * plN H 0) - (i0 + 1)), by omega, i0 + 1, v994, v995, v996, T997, T998, T999, by omega, rfl, s1126, s1127, s1128, s1129, s1130, s1131, s1132, s1133, s1134, s1135, s1136, (by have h_ := s1137; exact h_), s1138, K1093, B1072, B1073, B1074, B1075, B1076, B1077, B1078, B1079, B1080, B1081, B1082, B1083, B1084, B1070, B1090, B1091, B1092, gr1009, gr1029, gr1049, ap1010, ap1011, ap1012, ap1013, ap1014, ap1015, ap1016, ap1017, ap1018, ap1019, ap1020, ap1021, ap1022, ap1023, ap1006, ap1007, ap1030, ap1031, ap1032, ap1033, ap1034, ap1035, ap1036, ap1037, ap1038, ap1039, ap1040, ap1041, ap1042, ap1043, ap1008, ap1050, ap1051, ap1052, ap1053, ap1054, ap1055, ap1056, ap1057, ap1058, ap1059, ap1060, ap1061, ap1062, ap1063⟩
      ·replace c818 := of_decide_eq_false c818
       refine wq_exit (then_exit (then_exit ?_))
       have l1139 : (plN W 0 * plN H 0) = i0 := by omega
       subst l1139
       refine in_here (in_normal (then_normal (wq_region (wl_mv rfl rfl rfl s811 (wl_v (iv ((1 : Nat) : Int)) rfl rfl (y_add rfl rfl rfl (i64_n (by omega) (by omega)) rr) (wl_v (iv ((1 : Nat) : Int)) rfl rfl (y_asg rfl rfl rr) (wl_nil fun F1140 hF1141 => ?_)))))))
       obtain ⟨s1142, s1143, s1144, s1145, s1146, s1147, s1148, s1149, s1150⟩ := t9 hF1141 5 s804 6 s805 8 s806 9 s807 10 s808 14 s809 16 s810 134 s814 17 s815
       have s1151 : F1140 18 = iv ((1 : Nat) : Int) := (hF1141 18).trans rfl
       clear hF1141
       refine then_normal (wqr_step (wq_seq (wq_seq (wq_region (wl_mv rfl rfl rfl s1151 (wl_v (.bool true) rfl rfl (y_lss rfl rfl rfl rfl rr) (wl_nil fun F1152 hF1153 => ?_)))))))
       obtain ⟨s1154, s1155, s1156, s1157, s1158, s1159, s1160, s1161, s1162, s1163⟩ := t10 hF1153 5 s1142 6 s1143 8 s1144 9 s1145 10 s1146 14 s1147 16 s1148 134 s1149 17 s1150 18 s1151
       have s1164 : F1152 72 = .bool true := (hF1153 72).trans rfl
       clear hF1153
       refine then_normal ?_
       refine wq_cond (t := true) s1164 (fun _ => ?_) (fun e => by cases e)
       refine wq_skip (then_normal (wq_seq (wq_block (wq_seq (wq_region (wl_v (.agg #[iv W, iv H, iv R, iv B]) rfl rfl (y_load_stc stcT_seq rfl s1154 B744 rr) (wl_mv rfl rfl rfl s1163 (wl_cs rfl rfl rfl rfl rfl (fun _ _ => by kernel_rfl) (vsC rfl (vsC rfl vsN)) (pcref_blocks W H R B 1  _ (by assumption)  ) fun w1165 k1166 => ?_))))))))
       have B1167 := B737.all k1166 Apart.none
       have B1168 := B738.all k1166 Apart.none
       have B1169 := B739.all k1166 Apart.none
       have B1170 := B740.all k1166 Apart.none
       have B1171 := B741.all k1166 Apart.none
       have B1172 := B742.all k1166 Apart.none
       have B1173 := B743.all k1166 Apart.none
       have B1174 := B744.all k1166 id
       have B1175 := B745.all k1166 id
       have B1176 := B746.all k1166 id
       have B1177 := B747.all k1166 id
       have B1178 := B748.all k1166 id
       have B1179 := B749.all k1166 Apart.none
       have B1180 := B750.all k1166 id
       have B1181 := B751.all k1166 Apart.none
       have B1182 := B752.all k1166 Apart.none
       have B1183 := B753.all k1166 Apart.none
       have K1184 := K721.tr k1166
       refine wl_v (.tuple #[iv ((plN W 1 : Nat) : Int), iv ((plN H 1 : Nat) : Int)]) rfl rfl (y_mov rfl rfl rr) (wl_v (iv ((plN W 1 : Nat) : Int)) rfl rfl (y_ext rfl rfl rfl rr) (wl_v (iv ((plN H 1 : Nat) : Int)) rfl rfl (y_ext rfl rfl rfl rr) (wl_v (iv ((plN W 1 : Nat) : Int)) rfl rfl (y_asg rfl rfl rr) (wl_v (iv ((plN H 1 : Nat) : Int)) rfl rfl (y_asg rfl rfl rr) (wl_nil fun F1185 hF1186 => ?_)))))
       obtain ⟨s1187, s1188, s1189, s1190, s1191, s1192, s1193, s1194, s1195, s1196⟩ := t10 hF1186 5 s1154 6 s1155 8 s1156 9 s1157 10 s1158 14 s1159 16 s1160 134 s1161 17 s1162 18 s1163
       have s1197 : F1185 19 = iv ((plN W 1 : Nat) : Int) := (hF1186 19).trans rfl
       have s1198 : F1185 20 = iv ((plN H 1 : Nat) : Int) := (hF1186 20).trans rfl
       clear hF1186
       refine then_normal (wq_seq ?_)
       have hw0 := plN_pos (W := W) (p := 1) hsd.1
       have hw1 := plN_le (W := W) (p := 1) hsd.2.1
       have hn1 := plN_le (W := H) (p := 1) hsd.2.2.2.2.1
       have hwn : plN W 1 * plN H 1 ≤ 16 * 16 := Nat.mul_le_mul hw1 hn1
       have hofn := hof 1 (by decide)
       refine wq_region (wl_v (iv 0) rfl rfl (y_asg rfl rfl rr) (wl_nil fun F1199 hF1200 => ?_))
       obtain ⟨s1201, s1202, s1203, s1204, s1205, s1206, s1207, s1208, s1209, s1210, s1211, s1212⟩ := t12 hF1200 5 s1187 6 s1188 8 s1189 9 s1190 10 s1191 14 s1192 16 s1193 134 s1194 17 s1195 18 s1196 19 s1197 20 s1198
       have s1213 : F1199 21 = iv 0 := (hF1200 21).trans rfl
       clear hF1200
       refine then_normal (wq_block (wq_loop (fun nn FF ww => ∃ (i1 : Nat), ∃ (a1 : Value), ∃ (b1 : Value), ∃ (c1 : Value), ∃ (T1214 : Nat → Prop), ∃ (T1215 : Nat → Prop), ∃ (T1216 : Nat → Prop), (i1 ≤ (plN W 1 * plN H 1)) ∧ nn = (plN W 1 * plN H 1) - i1 ∧ FF 5 = pt p1 0 ∧ FF 6 = pt p22 0 ∧ FF 8 = pt p45 0 ∧ FF 9 = pt p70 0 ∧ FF 10 = pt p97 0 ∧ FF 14 = v413 ∧ FF 16 = pt p562 0 ∧ FF 18 = iv ((1 : Nat) : Int) ∧ FF 19 = iv ((plN W 1 : Nat) : Int) ∧ FF 20 = iv ((plN H 1 : Nat) : Int) ∧ FF 134 = undef ∧ FF 17 = iv (((plOff W H 1 + i1) : Nat) : Int) ∧ FF 21 = iv ((i1 : Nat) : Int) ∧ Kept (fun _ => False) w0 ww ∧ Byt ww T_b v l ∧ Byt ww T_g0 g0 (g.p0) ∧ Byt ww T_g1 g1 (g.p1) ∧ Byt ww T_g2 g2 (g.p2) ∧ Byt ww T_h0 h0 (h.p0) ∧ Byt ww T_h1 h1 (h.p1) ∧ Byt ww T_h2 h2 (h.p2) ∧ Stc ww p1 23 [iv W, iv H, iv R, iv B] ∧ Stc ww p22 25 [iv K, iv Q, iv D, iv F] ∧ Stc ww p45 29 [iv (g.W), iv (g.H), g0, g1, g2] ∧ Stc ww p70 29 [iv (h.W), iv (h.H), h0, h1, h2] ∧ Stc ww p97 29 [iv 0, iv 0, .slice none 0 0, .slice none 0 0, .slice none 0 0] ∧ RoO rCh ww T416 v413 L ∧ Stc ww p562 29 [iv ((decTo g h Q 1 (plN W 1) L (plOff W H 1) (frTo g h Q W H L 1) i1).W), iv ((decTo g h Q 1 (plN W 1) L (plOff W H 1) (frTo g h Q W H L 1) i1).H), a1, b1, c1] ∧ Owb ww T1214 a1 ((decTo g h Q 1 (plN W 1) L (plOff W H 1) (frTo g h Q W H L 1) i1).p0) ∧ Owb ww T1215 b1 ((decTo g h Q 1 (plN W 1) L (plOff W H 1) (frTo g h Q W H L 1) i1).p1) ∧ Owb ww T1216 c1 ((decTo g h Q 1 (plN W 1) L (plOff W H 1) (frTo g h Q W H L 1) i1).p2) ∧ Grew w0 noB T1214 ∧ Grew w0 noB T1215 ∧ Grew w0 noB T1216 ∧ Apart T1214 T_b ∧ Apart T1214 T_g0 ∧ Apart T1214 T_g1 ∧ Apart T1214 T_g2 ∧ Apart T1214 T_h0 ∧ Apart T1214 T_h1 ∧ Apart T1214 T_h2 ∧ Apart T1214 (onB p1) ∧ Apart T1214 (onB p22) ∧ Apart T1214 (onB p45) ∧ Apart T1214 (onB p70) ∧ Apart T1214 (onB p97) ∧ Apart T1214 T416 ∧ Apart T1214 (onB p562) ∧ Apart T1214 T1215 ∧ Apart T1214 T1216 ∧ Apart T1215 T_b ∧ Apart T1215 T_g0 ∧ Apart T1215 T_g1 ∧ Apart T1215 T_g2 ∧ Apart T1215 T_h0 ∧ Apart T1215 T_h1 ∧ Apart T1215 T_h2 ∧ Apart T1215 (onB p1) ∧ Apart T1215 (onB p22) ∧ Apart T1215 (onB p45) ∧ Apart T1215 (onB p70) ∧ Apart T1215 (onB p97) ∧ Apart T1215 T416 ∧ Apart T1215 (onB p562) ∧ Apart T1215 T1216 ∧ Apart T1216 T_b ∧ Apart T1216 T_g0 ∧ Apart T1216 T_g1 ∧ Apart T1216 T_g2 ∧ Apart T1216 T_h0 ∧ Apart T1216 T_h1 ∧ Apart T1216 T_h2 ∧ Apart T1216 (onB p1) ∧ Apart T1216 (onB p22) ∧ Apart T1216 (onB p45) ∧ Apart T1216 (onB p70) ∧ Apart T1216 (onB p97) ∧ Apart T1216 T416 ∧ Apart T1216 (onB p562)) ((plN W 1 * plN H 1) - 0) ⟨0, a0, b0, c0, T716, T717, T718, by omega, rfl, s1201, s1202, s1203, s1204, s1205, s1206, s1207, s1210, s1211, s1212, s1208, (by have h_ := s1209; exact h_), s1213, K1184, B1167, B1168, B1169, B1170, B1171, B1172, B1173, B1174, B1175, B1176, B1177, B1178, B1179, (by have h_ := B1180; exact h_), (by have h_ := B1181; exact h_), (by have h_ := B1182; exact h_), (by have h_ := B1183; exact h_), gr754, gr755, gr756, ap757, ap758, ap759, ap760, ap761, ap762, ap763, ap764, ap765, ap766, ap767, ap768, ap769, ap770, ap771, ap772, ap773, ap774, ap775, ap776, ap777, ap778, ap779, ap780, ap781, ap782, ap783, ap784, ap785, ap786, ap787, ap788, ap789, ap790, ap791, ap792, ap793, ap794, ap795, ap796, ap797, ap798, ap799, ap800, ap801⟩ ?_))
       rintro n1220 F1217 w1218 ⟨i1, a1, b1, c1, T1214, T1215, T1216, i1221, hn1220, s1222, s1223, s1224, s1225, s1226, s1227, s1228, s1229, s1230, s1231, s1232, s1233, s1234, K1219, B1235, B1236, B1237, B1238, B1239, B1240, B1241, B1242, B1243, B1244, B1245, B1246, B1247, B1248, B1249, B1250, B1251, gr1252, gr1253, gr1254, ap1255, ap1256, ap1257, ap1258, ap1259, ap1260, ap1261, ap1262, ap1263, ap1264, ap1265, ap1266, ap1267, ap1268, ap1269, ap1270, ap1271, ap1272, ap1273, ap1274, ap1275, ap1276, ap1277, ap1278, ap1279, ap1280, ap1281, ap1282, ap1283, ap1284, ap1285, ap1286, ap1287, ap1288, ap1289, ap1290, ap1291, ap1292, ap1293, ap1294, ap1295, ap1296, ap1297, ap1298, ap1299⟩
       refine wq_seq (wq_seq (wq_region (wl_mv rfl rfl rfl s1234 (wl_mv rfl rfl rfl s1230 (wl_mv rfl rfl rfl s1231 (wl_v (iv ((plN W 1 * plN H 1 : Nat) : Int)) rfl rfl (y_mul rfl rfl rfl (i64_n (by rw [Int.natCast_mul]) (by omega)) rr) (wl_v (.bool (decide (((i1 : Nat) : Int) < ((plN W 1 * plN H 1 : Nat) : Int)))) rfl rfl (y_lss rfl rfl rfl rfl rr) (wl_nil fun F1300 hF1301 => ?_))))))))
       obtain ⟨s1302, s1303, s1304, s1305, s1306, s1307, s1308, s1309, s1310, s1311, s1312, s1313, s1314⟩ := t13 hF1301 5 s1222 6 s1223 8 s1224 9 s1225 10 s1226 14 s1227 16 s1228 18 s1229 19 s1230 20 s1231 134 s1232 17 s1233 21 s1234
       have s1315 : F1300 85 = .bool (decide (((i1 : Nat) : Int) < ((plN W 1 * plN H 1 : Nat) : Int))) := (hF1301 85).trans rfl
       clear hF1301
       refine then_normal ?_
       refine wq_cond s1315 (fun c1316 => ?_) (fun c1316 => ?_)
       ·replace c1316 := of_decide_eq_true c1316
        refine wq_skip (then_normal (wq_seq (wq_block (wq_seq ?_))))
        have hdv := Nat.div_le_self i1 (plN W 1)
        have hxy := pXY_in (i := i1) hw0 hw1 (by omega)
        refine wq_cas (γ := Unit) [(17, 16), (18, 16), (19, 16), (21, 16), (22, 16), (21, 20), (22, 20)] [some 89, some 90, some 91, some 92, some 93, some 94, some 95, some 96, some 97, some 98, some 99, some 100, some 101, some 102, some 103, some 104, some 105, some 88, some 106, some 107, some 22, none, some 23] ⟨fun w_ => True, fun _ => False, fun g_ w_ => True, fun g_ => fun _ => False, fun p_ w_ => Blk w_ p_ 68 (fun _ => 0), fun g_ p_ w_ => Blk w_ p_ 68 (cpB (decTo g h Q 1 (plN W 1) L (plOff W H 1) (frTo g h Q W H L 1) i1) g h ((1 : Nat) : Int) (4 * pX (plN W 1) i1) (4 * pY (plN W 1) i1) (L.getD (plOff W H 1 + i1) ⟨0, 0, 0, 0, 0, fun _ => 0⟩))⟩ (fun _ => False) (fun p_ => w1218.heap.size ≤ p_) [fun g_ => .agg #[iv ((decTo g h Q 1 (plN W 1) L (plOff W H 1) (frTo g h Q W H L 1) i1).W), iv ((decTo g h Q 1 (plN W 1) L (plOff W H 1) (frTo g h Q W H L 1) i1).H), a1, b1, c1], fun g_ => .agg #[iv (g.W), iv (g.H), g0, g1, g2], fun g_ => .agg #[iv (h.W), iv (h.H), h0, h1, h2], fun g_ => iv ((1 : Nat) : Int), fun g_ => iv ((i1 : Nat) : Int), fun g_ => iv ((plN W 1 : Nat) : Int), fun g_ => iv (pX (plN W 1) i1), fun g_ => iv (4 * pX (plN W 1) i1), fun g_ => iv ((i1 : Nat) : Int), fun g_ => iv ((plN W 1 : Nat) : Int), fun g_ => iv (pY (plN W 1) i1), fun g_ => iv (4 * pY (plN W 1) i1), fun g_ => v413, fun g_ => iv (((plOff W H 1 + i1) : Nat) : Int), fun g_ => bytAddr v413 ((plOff W H 1 + i1) * 21), fun g_ => .agg (chW (L.getD (plOff W H 1 + i1) ⟨0, 0, 0, 0, 0, fun _ => 0⟩)).toArray, fun g_ => .tuple #[blkV (cpB (decTo g h Q 1 (plN W 1) L (plOff W H 1) (frTo g h Q W H L 1) i1) g h ((1 : Nat) : Int) (4 * pX (plN W 1) i1) (4 * pY (plN W 1) i1) (L.getD (plOff W H 1 + i1) ⟨0, 0, 0, 0, 0, fun _ => 0⟩)), iv (cpE (decTo g h Q 1 (plN W 1) L (plOff W H 1) (frTo g h Q W H L 1) i1) g h ((1 : Nat) : Int) (4 * pX (plN W 1) i1) (4 * pY (plN W 1) i1) (L.getD (plOff W H 1 + i1) ⟨0, 0, 0, 0, 0, fun _ => 0⟩))], fun g_ => .tuple #[blkV (cpB (decTo g h Q 1 (plN W 1) L (plOff W H 1) (frTo g h Q W H L 1) i1) g h ((1 : Nat) : Int) (4 * pX (plN W 1) i1) (4 * pY (plN W 1) i1) (L.getD (plOff W H 1 + i1) ⟨0, 0, 0, 0, 0, fun _ => 0⟩)), iv (cpE (decTo g h Q 1 (plN W 1) L (plOff W H 1) (frTo g h Q W H L 1) i1) g h ((1 : Nat) : Int) (4 * pX (plN W 1) i1) (4 * pY (plN W 1) i1) (L.getD (plOff W H 1 + i1) ⟨0, 0, 0, 0, 0, fun _ => 0⟩))], fun g_ => blkV (cpB (decTo g h Q 1 (plN W 1) L (plOff W H 1) (frTo g h Q W H L 1) i1) g h ((1 : Nat) : Int) (4 * pX (plN W 1) i1) (4 * pY (plN W 1) i1) (L.getD (plOff W H 1 + i1) ⟨0, 0, 0, 0, 0, fun _ => 0⟩)), fun g_ => iv (cpE (decTo g h Q 1 (plN W 1) L (plOff W H 1) (frTo g h Q W H L 1) i1) g h ((1 : Nat) : Int) (4 * pX (plN W 1) i1) (4 * pY (plN W 1) i1) (L.getD (plOff W H 1 + i1) ⟨0, 0, 0, 0, 0, fun _ => 0⟩)), fun _ => undef, fun _ => undef, fun g_ => iv (cpE (decTo g h Q 1 (plN W 1) L (plOff W H 1) (frTo g h Q W H L 1) i1) g h ((1 : Nat) : Int) (4 * pX (plN W 1) i1) (4 * pY (plN W 1) i1) (L.getD (plOff W H 1 + i1) ⟨0, 0, 0, 0, 0, fun _ => 0⟩))] 16 21 (some 20) () 0 (by kernel_rfl) (by kernel_rfl) (by kernel_rfl) (by kernel_rfl) ⟨.inr (.inr fun _ _ => rfl), ⟨.inr (.inr fun _ _ => rfl), ⟨.inr (.inr fun _ _ => rfl), ⟨.inr (.inr fun _ _ => rfl), ⟨.inr (.inr fun _ _ => rfl), ⟨.inr (.inr fun _ _ => rfl), ⟨.inr (.inr fun _ _ => rfl), ⟨.inr (.inr fun _ _ => rfl), ⟨.inr (.inr fun _ _ => rfl), ⟨.inr (.inr fun _ _ => rfl), ⟨.inr (.inr fun _ _ => rfl), ⟨.inr (.inr fun _ _ => rfl), ⟨.inr (.inr fun _ _ => rfl), ⟨.inr (.inr fun _ _ => rfl), ⟨.inr (.inr fun _ _ => rfl), ⟨.inr (.inr fun _ _ => rfl), ⟨.inr (.inl rfl), ⟨.inl rfl, ⟨.inl rfl, ⟨.inl rfl, ⟨.inr (.inr fun _ _ => rfl), ⟨.inl rfl, ⟨.inl rfl, trivial⟩⟩⟩⟩⟩⟩⟩⟩⟩⟩⟩⟩⟩⟩⟩⟩⟩⟩⟩⟩⟩⟩⟩ ⟨trivial, fun _ _ _ _ _ _ => trivial, fun _ _ _ z => z.elim, fun _ _ _ _ _ _ _ => trivial, fun _ _ _ _ z => z.elim, fun _ _ _ _ h k z => h.all k z, fun _ _ h => h.lt, fun _ _ _ _ _ h k z => h.all k z, fun _ z => z, fun _ h => .inr h, fun _ _ z => z⟩ (fun _ _ _ h => h) (fun e => by cases e) ?_ ?_
        ·refine stepsFX_cons ?_ ?_
         ·refine StepFX.one rfl rfl rfl rfl fun g_ p_ F_ w_ hR hout hD => ?_
          exact (y_load_stc stcT_frame rfl ((hout 16 rfl (by decide)).trans s1308) (B1248.all hR id) ⟨rfl, Kept.refl _ _⟩)
         refine stepsFX_cons ?_ ?_
         ·refine StepFX.one rfl rfl rfl rfl fun g_ p_ F_ w_ hR hout hD => ?_
          exact (y_load_stc stcT_frame rfl ((hout 8 rfl (by decide)).trans s1304) (B1244.all hR id) ⟨rfl, Kept.refl _ _⟩)
         refine stepsFX_cons ?_ ?_
         ·refine StepFX.one rfl rfl rfl rfl fun g_ p_ F_ w_ hR hout hD => ?_
          exact (y_load_stc stcT_frame rfl ((hout 9 rfl (by decide)).trans s1305) (B1245.all hR id) ⟨rfl, Kept.refl _ _⟩)
         refine stepsFX_cons ?_ ?_
         ·refine StepFX.one rfl rfl rfl rfl fun g_ p_ F_ w_ hR hout hD => ?_
          exact (y_mov rfl ((hout 18 rfl (by decide)).trans s1309) ⟨rfl, Kept.refl _ _⟩)
         refine stepsFX_cons ?_ ?_
         ·refine StepFX.one rfl rfl rfl rfl fun g_ p_ F_ w_ hR hout hD => ?_
          exact (y_mov rfl ((hout 21 rfl (by decide)).trans s1314) ⟨rfl, Kept.refl _ _⟩)
         refine stepsFX_cons ?_ ?_
         ·refine StepFX.one rfl rfl rfl rfl fun g_ p_ F_ w_ hR hout hD => ?_
          exact (y_mov rfl ((hout 19 rfl (by decide)).trans s1310) ⟨rfl, Kept.refl _ _⟩)
         refine stepsFX_cons ?_ ?_
         ·refine StepFX.one rfl rfl rfl rfl fun g_ p_ F_ w_ hR hout hD => ?_
          have g93 : F_ 93 = iv ((i1 : Nat) : Int) := (hD.get 0 rfl rfl rfl).2 (by decide)
          have g94 : F_ 94 = iv ((plN W 1 : Nat) : Int) := (hD.get 1 rfl rfl rfl).2 (by decide)
          exact (y_rem rfl g93 g94 (by first | decide | omega) (rem_nat i1 (plN W 1)) ⟨rfl, Kept.refl _ _⟩)
         refine stepsFX_cons ?_ ?_
         ·refine StepFX.one rfl rfl rfl rfl fun g_ p_ F_ w_ hR hout hD => ?_
          have g95 : F_ 95 = iv (pX (plN W 1) i1) := (hD.get 0 rfl rfl rfl).2 (by decide)
          exact (y_mul rfl rfl g95 (i64_i rfl (by omega)) ⟨rfl, Kept.refl _ _⟩)
         refine stepsFX_cons ?_ ?_
         ·refine StepFX.one rfl rfl rfl rfl fun g_ p_ F_ w_ hR hout hD => ?_
          exact (y_mov rfl ((hout 21 rfl (by decide)).trans s1314) ⟨rfl, Kept.refl _ _⟩)
         refine stepsFX_cons ?_ ?_
         ·refine StepFX.one rfl rfl rfl rfl fun g_ p_ F_ w_ hR hout hD => ?_
          exact (y_mov rfl ((hout 19 rfl (by decide)).trans s1310) ⟨rfl, Kept.refl _ _⟩)
         refine stepsFX_cons ?_ ?_
         ·refine StepFX.one rfl rfl rfl rfl fun g_ p_ F_ w_ hR hout hD => ?_
          have g97 : F_ 97 = iv ((i1 : Nat) : Int) := (hD.get 0 rfl rfl rfl).2 (by decide)
          have g98 : F_ 98 = iv ((plN W 1 : Nat) : Int) := (hD.get 1 rfl rfl rfl).2 (by decide)
          exact (y_quo rfl g97 g98 (by first | decide | omega) (i64_n (quo_nat i1 (plN W 1)) (by omega)) ⟨rfl, Kept.refl _ _⟩)
         refine stepsFX_cons ?_ ?_
         ·refine StepFX.one rfl rfl rfl rfl fun g_ p_ F_ w_ hR hout hD => ?_
          have g99 : F_ 99 = iv (pY (plN W 1) i1) := (hD.get 0 rfl rfl rfl).2 (by decide)
          exact (y_mul rfl rfl g99 (i64_i rfl (by omega)) ⟨rfl, Kept.refl _ _⟩)
         refine stepsFX_cons ?_ ?_
         ·refine StepFX.one rfl rfl rfl rfl fun g_ p_ F_ w_ hR hout hD => ?_
          exact (y_mov rfl ((hout 14 rfl (by decide)).trans s1307) ⟨rfl, Kept.refl _ _⟩)
         refine stepsFX_cons ?_ ?_
         ·refine StepFX.one rfl rfl rfl rfl fun g_ p_ F_ w_ hR hout hD => ?_
          exact (y_mov rfl ((hout 17 rfl (by decide)).trans s1313) ⟨rfl, Kept.refl _ _⟩)
         refine stepsFX_cons ?_ ?_
         ·refine StepFX.one rfl rfl rfl rfl fun g_ p_ F_ w_ hR hout hD => ?_
          have g101 : F_ 101 = v413 := (hD.get 0 rfl rfl rfl).2 (by decide)
          have g102 : F_ 102 = iv (((plOff W H 1 + i1) : Nat) : Int) := (hD.get 1 rfl rfl rfl).2 (by decide)
          exact (y_atRo (r := rCh) (plOff W H 1 + i1) rfl g101 g102 (by omega) (B1247.all hR Apart.none).roa (by rw [hlo0]; exact off_lt (by decide) (by omega)) ⟨rfl, Kept.refl _ _⟩)
         refine stepsFX_cons ?_ ?_
         ·refine StepFX.one rfl rfl rfl rfl fun g_ p_ F_ w_ hR hout hD => ?_
          have g103 : F_ 103 = bytAddr v413 ((plOff W H 1 + i1) * 21) := (hD.get 0 rfl rfl rfl).2 (by decide)
          exact (y_ldRoP (r := rCh) (n := 21) (plOff W H 1 + i1) 0 stcT_choice rfl g103 (B1247.all hR Apart.none).roa (by rw [hlo0]; exact off_lt (by decide) (by omega)) (by decide) rfl ⟨rfl, Kept.refl _ _⟩)
         refine stepsFX_cons ?_ ?_
         ·refine StepFX.call rfl rfl rfl rfl fun g_ p_ F_ w_ hR hout hD hP_ => ?_
          have g89 : F_ 89 = .agg #[iv ((decTo g h Q 1 (plN W 1) L (plOff W H 1) (frTo g h Q W H L 1) i1).W), iv ((decTo g h Q 1 (plN W 1) L (plOff W H 1) (frTo g h Q W H L 1) i1).H), a1, b1, c1] := (hD.get 0 rfl rfl rfl).2 (by decide)
          have g90 : F_ 90 = .agg #[iv (g.W), iv (g.H), g0, g1, g2] := (hD.get 1 rfl rfl rfl).2 (by decide)
          have g91 : F_ 91 = .agg #[iv (h.W), iv (h.H), h0, h1, h2] := (hD.get 2 rfl rfl rfl).2 (by decide)
          have g92 : F_ 92 = iv ((1 : Nat) : Int) := (hD.get 3 rfl rfl rfl).2 (by decide)
          have g96 : F_ 96 = iv (4 * pX (plN W 1) i1) := (hD.get 4 rfl rfl rfl).2 (by decide)
          have g100 : F_ 100 = iv (4 * pY (plN W 1) i1) := (hD.get 5 rfl rfl rfl).2 (by decide)
          have g104 : F_ 104 = .agg (chW (L.getD (plOff W H 1 + i1) ⟨0, 0, 0, 0, 0, fun _ => 0⟩)).toArray := (hD.get 6 rfl rfl rfl).2 (by decide)
          exact (y_cs rfl rfl rfl (fun _ _ => by kernel_rfl) (ev_func _) (vsC g89 (vsC g90 (vsC g91 (vsC g92 (vsC g96 (vsC g100 (vsC g104 vsN))))))) (bref_predict ((1 : Nat) : Int) (4 * pX (plN W 1) i1) (4 * pY (plN W 1) i1) (L.getD (plOff W H 1 + i1) ⟨0, 0, 0, 0, 0, fun _ => 0⟩) (decTo g h Q 1 (plN W 1) L (plOff W H 1) (frTo g h Q W H L 1) i1) a1 b1 c1 g g0 g1 g2 h h0 h1 h2 T1214 T1215 T1216 T_g0 T_g1 T_g2 T_h0 T_h1 T_h2 _  (B1249.all hR Apart.none).byt (B1250.all hR Apart.none).byt (B1251.all hR Apart.none).byt (B1236.all hR Apart.none) (B1237.all hR Apart.none) (B1238.all hR Apart.none) (B1239.all hR Apart.none) (B1240.all hR Apart.none) (B1241.all hR Apart.none) ) (fun e_ w_ h_ => ⟨_, h_.1, (), rfl, h_.2, trivial, fun b hb => hb.elim⟩))
         refine stepsFX_cons ?_ ?_
         ·refine StepFX.one rfl rfl rfl rfl fun g_ p_ F_ w_ hR hout hD => ?_
          have g105 : F_ 105 = .tuple #[blkV (cpB (decTo g h Q 1 (plN W 1) L (plOff W H 1) (frTo g h Q W H L 1) i1) g h ((1 : Nat) : Int) (4 * pX (plN W 1) i1) (4 * pY (plN W 1) i1) (L.getD (plOff W H 1 + i1) ⟨0, 0, 0, 0, 0, fun _ => 0⟩)), iv (cpE (decTo g h Q 1 (plN W 1) L (plOff W H 1) (frTo g h Q W H L 1) i1) g h ((1 : Nat) : Int) (4 * pX (plN W 1) i1) (4 * pY (plN W 1) i1) (L.getD (plOff W H 1 + i1) ⟨0, 0, 0, 0, 0, fun _ => 0⟩))] := (hD.get 0 rfl rfl rfl).2 (by decide)
          exact (y_mov rfl g105 ⟨rfl, Kept.refl _ _⟩)
         refine stepsFX_cons ?_ ?_
         ·refine StepFX.one rfl rfl rfl rfl fun g_ p_ F_ w_ hR hout hD => ?_
          have g88 : F_ 88 = .tuple #[blkV (cpB (decTo g h Q 1 (plN W 1) L (plOff W H 1) (frTo g h Q W H L 1) i1) g h ((1 : Nat) : Int) (4 * pX (plN W 1) i1) (4 * pY (plN W 1) i1) (L.getD (plOff W H 1 + i1) ⟨0, 0, 0, 0, 0, fun _ => 0⟩)), iv (cpE (decTo g h Q 1 (plN W 1) L (plOff W H 1) (frTo g h Q W H L 1) i1) g h ((1 : Nat) : Int) (4 * pX (plN W 1) i1) (4 * pY (plN W 1) i1) (L.getD (plOff W H 1 + i1) ⟨0, 0, 0, 0, 0, fun _ => 0⟩))] := (hD.get 0 rfl rfl rfl).2 (by decide)
          exact (y_ext rfl g88 rfl ⟨rfl, Kept.refl _ _⟩)
         refine stepsFX_cons ?_ ?_
         ·refine StepFX.one rfl rfl rfl rfl fun g_ p_ F_ w_ hR hout hD => ?_
          have g88 : F_ 88 = .tuple #[blkV (cpB (decTo g h Q 1 (plN W 1) L (plOff W H 1) (frTo g h Q W H L 1) i1) g h ((1 : Nat) : Int) (4 * pX (plN W 1) i1) (4 * pY (plN W 1) i1) (L.getD (plOff W H 1 + i1) ⟨0, 0, 0, 0, 0, fun _ => 0⟩)), iv (cpE (decTo g h Q 1 (plN W 1) L (plOff W H 1) (frTo g h Q W H L 1) i1) g h ((1 : Nat) : Int) (4 * pX (plN W 1) i1) (4 * pY (plN W 1) i1) (L.getD (plOff W H 1 + i1) ⟨0, 0, 0, 0, 0, fun _ => 0⟩))] := (hD.get 0 rfl rfl rfl).2 (by decide)
          exact (y_ext rfl g88 rfl ⟨rfl, Kept.refl _ _⟩)
         refine stepsFX_cons ?_ ?_
         ·refine StepFX.alloc rfl rfl rfl rfl fun F_ w_ hR => ?_
          exact y_alloc_blkP rfl blkT_arr.2.2 ⟨_, rfl, Nat.le_refl _, Blk.new _ _ _, (Kept.refl _ _).alloc _⟩
         refine stepsFX_cons ?_ ?_
         ·refine StepFX.store rfl rfl rfl rfl fun g_ p_ F_ w_ hR hout hD hO_ hZ_ hQ_ => ?_
          have g22 : F_ 22 = pt p_ 0 := (hD.get 0 rfl rfl rfl).1 rfl
          have g106 : F_ 106 = blkV (cpB (decTo g h Q 1 (plN W 1) L (plOff W H 1) (frTo g h Q W H L 1) i1) g h ((1 : Nat) : Int) (4 * pX (plN W 1) i1) (4 * pY (plN W 1) i1) (L.getD (plOff W H 1 + i1) ⟨0, 0, 0, 0, 0, fun _ => 0⟩)) := (hD.get 1 rfl rfl rfl).2 (by decide)
          exact y_storeBlk blkT_arr.2.1 rfl g22 g106 hZ_ fun w2_ b_ k_ => ⟨rfl, k_, b_⟩
         refine stepsFX_cons ?_ ?_
         ·refine StepFX.one rfl rfl rfl rfl fun g_ p_ F_ w_ hR hout hD => ?_
          have g107 : F_ 107 = iv (cpE (decTo g h Q 1 (plN W 1) L (plOff W H 1) (frTo g h Q W H L 1) i1) g h ((1 : Nat) : Int) (4 * pX (plN W 1) i1) (4 * pY (plN W 1) i1) (L.getD (plOff W H 1 + i1) ⟨0, 0, 0, 0, 0, fun _ => 0⟩)) := (hD.get 0 rfl rfl rfl).2 (by decide)
          exact (y_asg rfl g107 ⟨rfl, Kept.refl _ _⟩)
         exact stepsFX_nil
        intro gg1317 p1318 v1319 F1320 w1321 k1322 hp1323 hQ1324 hG1325 hY1326 hN1327 hA1328 hV1329 hF1330
        have B1331 := B1235.all k1322 Apart.none
        have B1332 := B1236.all k1322 Apart.none
        have B1333 := B1237.all k1322 Apart.none
        have B1334 := B1238.all k1322 Apart.none
        have B1335 := B1239.all k1322 Apart.none
        have B1336 := B1240.all k1322 Apart.none
        have B1337 := B1241.all k1322 Apart.none
        have B1338 := B1242.all k1322 id
        have B1339 := B1243.all k1322 id
        have B1340 := B1244.all k1322 id
        have B1341 := B1245.all k1322 id
        have B1342 := B1246.all k1322 id
        have B1343 := B1247.all k1322 Apart.none
        have B1344 := B1248.all k1322 id
        have B1345 := B1249.all k1322 Apart.none
        have B1346 := B1250.all k1322 Apart.none
        have B1347 := B1251.all k1322 Apart.none
        have K1348 := K1219.tr k1322
        replace hY1326 : Blk w1321 p1318 68 (cpB (decTo g h Q 1 (plN W 1) L (plOff W H 1) (frTo g h Q W H L 1) i1) g h ((1 : Nat) : Int) (4 * pX (plN W 1) i1) (4 * pY (plN W 1) i1) (L.getD (plOff W H 1 + i1) ⟨0, 0, 0, 0, 0, fun _ => 0⟩)) := hY1326
        obtain ⟨s1367, s1368, s1369, s1370, s1371, s1372, s1373, s1374, s1375, s1376, s1377, s1378, s1379⟩ := t13 hF1330 5 s1302 6 s1303 8 s1304 9 s1305 10 s1306 14 s1307 16 s1308 18 s1309 19 s1310 20 s1311 134 s1312 17 s1313 21 s1314
        have s1380 : F1320 22 = pt p1318 0 := (hF1330 22).trans (hA1328 20 rfl)
        clear hF1330 hV1329 hA1328 hN1327 hG1325
        refine then_normal (wq_seq ?_)
        refine wq_cas (γ := Unit) [(8, 7), (9, 7), (10, 7), (12, 7), (13, 7), (12, 11), (13, 11)] [some 109, some 110, some 111, some 112, some 113, some 114, some 115, some 116, some 108, some 117, some 118, some 24, none, some 25] ⟨fun w_ => True, fun _ => False, fun g_ w_ => True, fun g_ => fun _ => False, fun p_ w_ => Blk w_ p_ 68 (fun _ => 0), fun g_ p_ w_ => Blk w_ p_ 68 (buB (cpB (decTo g h Q 1 (plN W 1) L (plOff W H 1) (frTo g h Q W H L 1) i1) g h ((1 : Nat) : Int) (4 * pX (plN W 1) i1) (4 * pY (plN W 1) i1) (L.getD (plOff W H 1 + i1) ⟨0, 0, 0, 0, 0, fun _ => 0⟩)) (L.getD (plOff W H 1 + i1) ⟨0, 0, 0, 0, 0, fun _ => 0⟩).b Q)⟩ (fun _ => False) (fun p_ => w1321.heap.size ≤ p_) [fun g_ => blkV (cpB (decTo g h Q 1 (plN W 1) L (plOff W H 1) (frTo g h Q W H L 1) i1) g h ((1 : Nat) : Int) (4 * pX (plN W 1) i1) (4 * pY (plN W 1) i1) (L.getD (plOff W H 1 + i1) ⟨0, 0, 0, 0, 0, fun _ => 0⟩)), fun g_ => v413, fun g_ => iv (((plOff W H 1 + i1) : Nat) : Int), fun g_ => bytAddr v413 ((plOff W H 1 + i1) * 21), fun g_ => .agg (chW (L.getD (plOff W H 1 + i1) ⟨0, 0, 0, 0, 0, fun _ => 0⟩)).toArray, fun g_ => pt p22 1, fun g_ => iv Q, fun g_ => .tuple #[blkV (buB (cpB (decTo g h Q 1 (plN W 1) L (plOff W H 1) (frTo g h Q W H L 1) i1) g h ((1 : Nat) : Int) (4 * pX (plN W 1) i1) (4 * pY (plN W 1) i1) (L.getD (plOff W H 1 + i1) ⟨0, 0, 0, 0, 0, fun _ => 0⟩)) (L.getD (plOff W H 1 + i1) ⟨0, 0, 0, 0, 0, fun _ => 0⟩).b Q), iv (ern Q)], fun g_ => .tuple #[blkV (buB (cpB (decTo g h Q 1 (plN W 1) L (plOff W H 1) (frTo g h Q W H L 1) i1) g h ((1 : Nat) : Int) (4 * pX (plN W 1) i1) (4 * pY (plN W 1) i1) (L.getD (plOff W H 1 + i1) ⟨0, 0, 0, 0, 0, fun _ => 0⟩)) (L.getD (plOff W H 1 + i1) ⟨0, 0, 0, 0, 0, fun _ => 0⟩).b Q), iv (ern Q)], fun g_ => blkV (buB (cpB (decTo g h Q 1 (plN W 1) L (plOff W H 1) (frTo g h Q W H L 1) i1) g h ((1 : Nat) : Int) (4 * pX (plN W 1) i1) (4 * pY (plN W 1) i1) (L.getD (plOff W H 1 + i1) ⟨0, 0, 0, 0, 0, fun _ => 0⟩)) (L.getD (plOff W H 1 + i1) ⟨0, 0, 0, 0, 0, fun _ => 0⟩).b Q), fun g_ => iv (ern Q), fun _ => undef, fun _ => undef, fun g_ => iv (ern Q)] 7 12 (some 11) () 0 (by kernel_rfl) (by kernel_rfl) (by kernel_rfl) (by kernel_rfl) ⟨.inr (.inr fun _ _ => rfl), ⟨.inr (.inr fun _ _ => rfl), ⟨.inr (.inr fun _ _ => rfl), ⟨.inr (.inr fun _ _ => rfl), ⟨.inr (.inr fun _ _ => rfl), ⟨.inr (.inr fun _ _ => rfl), ⟨.inr (.inr fun _ _ => rfl), ⟨.inr (.inl rfl), ⟨.inl rfl, ⟨.inl rfl, ⟨.inl rfl, ⟨.inr (.inr fun _ _ => rfl), ⟨.inl rfl, ⟨.inl rfl, trivial⟩⟩⟩⟩⟩⟩⟩⟩⟩⟩⟩⟩⟩⟩ ⟨trivial, fun _ _ _ _ _ _ => trivial, fun _ _ _ z => z.elim, fun _ _ _ _ _ _ _ => trivial, fun _ _ _ _ z => z.elim, fun _ _ _ _ h k z => h.all k z, fun _ _ h => h.lt, fun _ _ _ _ _ h k z => h.all k z, fun _ z => z, fun _ h => .inr h, fun _ _ z => z⟩ (fun _ _ _ h => h) (fun e => by cases e) ?_ ?_
        ·refine stepsFX_cons ?_ ?_
         ·refine StepFX.one rfl rfl rfl rfl fun g_ p_ F_ w_ hR hout hD => ?_
          exact (y_load_blk blkT_arr rfl ((hout 22 rfl (by decide)).trans s1380) (hY1326.all hR id) ⟨rfl, Kept.refl _ _⟩)
         refine stepsFX_cons ?_ ?_
         ·refine StepFX.one rfl rfl rfl rfl fun g_ p_ F_ w_ hR hout hD => ?_
          exact (y_mov rfl ((hout 14 rfl (by decide)).trans s1372) ⟨rfl, Kept.refl _ _⟩)
         refine stepsFX_cons ?_ ?_
         ·refine StepFX.one rfl rfl rfl rfl fun g_ p_ F_ w_ hR hout hD => ?_
          exact (y_mov rfl ((hout 17 rfl (by decide)).trans s1378) ⟨rfl, Kept.refl _ _⟩)
         refine stepsFX_cons ?_ ?_
         ·refine StepFX.one rfl rfl rfl rfl fun g_ p_ F_ w_ hR hout hD => ?_
          have g110 : F_ 110 = v413 := (hD.get 0 rfl rfl rfl).2 (by decide)
          have g111 : F_ 111 = iv (((plOff W H 1 + i1) : Nat) : Int) := (hD.get 1 rfl rfl rfl).2 (by decide)
          exact (y_atRo (r := rCh) (plOff W H 1 + i1) rfl g110 g111 (by omega) (B1343.all hR Apart.none).roa (by rw [hlo0]; exact off_lt (by decide) (by omega)) ⟨rfl, Kept.refl _ _⟩)
         refine stepsFX_cons ?_ ?_
         ·refine StepFX.one rfl rfl rfl rfl fun g_ p_ F_ w_ hR hout hD => ?_
          have g112 : F_ 112 = bytAddr v413 ((plOff W H 1 + i1) * 21) := (hD.get 0 rfl rfl rfl).2 (by decide)
          exact (y_ldRoP (r := rCh) (n := 21) (plOff W H 1 + i1) 0 stcT_choice rfl g112 (B1343.all hR Apart.none).roa (by rw [hlo0]; exact off_lt (by decide) (by omega)) (by decide) rfl ⟨rfl, Kept.refl _ _⟩)
         refine stepsFX_cons ?_ ?_
         ·refine StepFX.one rfl rfl rfl rfl fun g_ p_ F_ w_ hR hout hD => ?_
          exact (y_fieldR (n := 1) rfl ((hout 6 rfl (by decide)).trans s1368) Tryz.underlying25 rfl (by kernel_rfl) (by decide) rfl ⟨rfl, Kept.refl _ _⟩)
         refine stepsFX_cons ?_ ?_
         ·refine StepFX.one rfl rfl rfl rfl fun g_ p_ F_ w_ hR hout hD => ?_
          have g114 : F_ 114 = pt p22 1 := (hD.get 0 rfl rfl rfl).2 (by decide)
          exact (y_ld_stc rfl g114 Tryz.underlying3 (B1339.all hR id) rfl rfl ⟨rfl, Kept.refl _ _⟩)
         refine stepsFX_cons ?_ ?_
         ·refine StepFX.call rfl rfl rfl rfl fun g_ p_ F_ w_ hR hout hD hP_ => ?_
          have g109 : F_ 109 = blkV (cpB (decTo g h Q 1 (plN W 1) L (plOff W H 1) (frTo g h Q W H L 1) i1) g h ((1 : Nat) : Int) (4 * pX (plN W 1) i1) (4 * pY (plN W 1) i1) (L.getD (plOff W H 1 + i1) ⟨0, 0, 0, 0, 0, fun _ => 0⟩)) := (hD.get 0 rfl rfl rfl).2 (by decide)
          have g113 : F_ 113 = .agg (chW (L.getD (plOff W H 1 + i1) ⟨0, 0, 0, 0, 0, fun _ => 0⟩)).toArray := (hD.get 1 rfl rfl rfl).2 (by decide)
          have g115 : F_ 115 = iv Q := (hD.get 2 rfl rfl rfl).2 (by decide)
          exact (y_cs rfl rfl rfl (fun _ _ => by kernel_rfl) (ev_func _) (vsC g109 (vsC g113 (vsC g115 vsN))) (bref_build (cpB (decTo g h Q 1 (plN W 1) L (plOff W H 1) (frTo g h Q W H L 1) i1) g h ((1 : Nat) : Int) (4 * pX (plN W 1) i1) (4 * pY (plN W 1) i1) (L.getD (plOff W H 1 + i1) ⟨0, 0, 0, 0, 0, fun _ => 0⟩)) (L.getD (plOff W H 1 + i1) ⟨0, 0, 0, 0, 0, fun _ => 0⟩) Q  _   ) (fun e_ w_ h_ => ⟨_, h_.1, (), rfl, h_.2, trivial, fun b hb => hb.elim⟩))
         refine stepsFX_cons ?_ ?_
         ·refine StepFX.one rfl rfl rfl rfl fun g_ p_ F_ w_ hR hout hD => ?_
          have g116 : F_ 116 = .tuple #[blkV (buB (cpB (decTo g h Q 1 (plN W 1) L (plOff W H 1) (frTo g h Q W H L 1) i1) g h ((1 : Nat) : Int) (4 * pX (plN W 1) i1) (4 * pY (plN W 1) i1) (L.getD (plOff W H 1 + i1) ⟨0, 0, 0, 0, 0, fun _ => 0⟩)) (L.getD (plOff W H 1 + i1) ⟨0, 0, 0, 0, 0, fun _ => 0⟩).b Q), iv (ern Q)] := (hD.get 0 rfl rfl rfl).2 (by decide)
          exact (y_mov rfl g116 ⟨rfl, Kept.refl _ _⟩)
         refine stepsFX_cons ?_ ?_
         ·refine StepFX.one rfl rfl rfl rfl fun g_ p_ F_ w_ hR hout hD => ?_
          have g108 : F_ 108 = .tuple #[blkV (buB (cpB (decTo g h Q 1 (plN W 1) L (plOff W H 1) (frTo g h Q W H L 1) i1) g h ((1 : Nat) : Int) (4 * pX (plN W 1) i1) (4 * pY (plN W 1) i1) (L.getD (plOff W H 1 + i1) ⟨0, 0, 0, 0, 0, fun _ => 0⟩)) (L.getD (plOff W H 1 + i1) ⟨0, 0, 0, 0, 0, fun _ => 0⟩).b Q), iv (ern Q)] := (hD.get 0 rfl rfl rfl).2 (by decide)
          exact (y_ext rfl g108 rfl ⟨rfl, Kept.refl _ _⟩)
         refine stepsFX_cons ?_ ?_
         ·refine StepFX.one rfl rfl rfl rfl fun g_ p_ F_ w_ hR hout hD => ?_
          have g108 : F_ 108 = .tuple #[blkV (buB (cpB (decTo g h Q 1 (plN W 1) L (plOff W H 1) (frTo g h Q W H L 1) i1) g h ((1 : Nat) : Int) (4 * pX (plN W 1) i1) (4 * pY (plN W 1) i1) (L.getD (plOff W H 1 + i1) ⟨0, 0, 0, 0, 0, fun _ => 0⟩)) (L.getD (plOff W H 1 + i1) ⟨0, 0, 0, 0, 0, fun _ => 0⟩).b Q), iv (ern Q)] := (hD.get 0 rfl rfl rfl).2 (by decide)
          exact (y_ext rfl g108 rfl ⟨rfl, Kept.refl _ _⟩)
         refine stepsFX_cons ?_ ?_
         ·refine StepFX.alloc rfl rfl rfl rfl fun F_ w_ hR => ?_
          exact y_alloc_blkP rfl blkT_arr.2.2 ⟨_, rfl, Nat.le_refl _, Blk.new _ _ _, (Kept.refl _ _).alloc _⟩
         refine stepsFX_cons ?_ ?_
         ·refine StepFX.store rfl rfl rfl rfl fun g_ p_ F_ w_ hR hout hD hO_ hZ_ hQ_ => ?_
          have g24 : F_ 24 = pt p_ 0 := (hD.get 0 rfl rfl rfl).1 rfl
          have g117 : F_ 117 = blkV (buB (cpB (decTo g h Q 1 (plN W 1) L (plOff W H 1) (frTo g h Q W H L 1) i1) g h ((1 : Nat) : Int) (4 * pX (plN W 1) i1) (4 * pY (plN W 1) i1) (L.getD (plOff W H 1 + i1) ⟨0, 0, 0, 0, 0, fun _ => 0⟩)) (L.getD (plOff W H 1 + i1) ⟨0, 0, 0, 0, 0, fun _ => 0⟩).b Q) := (hD.get 1 rfl rfl rfl).2 (by decide)
          exact y_storeBlk blkT_arr.2.1 rfl g24 g117 hZ_ fun w2_ b_ k_ => ⟨rfl, k_, b_⟩
         refine stepsFX_cons ?_ ?_
         ·refine StepFX.one rfl rfl rfl rfl fun g_ p_ F_ w_ hR hout hD => ?_
          have g118 : F_ 118 = iv (ern Q) := (hD.get 0 rfl rfl rfl).2 (by decide)
          exact (y_asg rfl g118 ⟨rfl, Kept.refl _ _⟩)
         exact stepsFX_nil
        intro gg1381 p1382 v1383 F1384 w1385 k1386 hp1387 hQ1388 hG1389 hY1390 hN1391 hA1392 hV1393 hF1394
        have B1395 := B1331.all k1386 Apart.none
        have B1396 := B1332.all k1386 Apart.none
        have B1397 := B1333.all k1386 Apart.none
        have B1398 := B1334.all k1386 Apart.none
        have B1399 := B1335.all k1386 Apart.none
        have B1400 := B1336.all k1386 Apart.none
        have B1401 := B1337.all k1386 Apart.none
        have B1402 := B1338.all k1386 id
        have B1403 := B1339.all k1386 id
        have B1404 := B1340.all k1386 id
        have B1405 := B1341.all k1386 id
        have B1406 := B1342.all k1386 id
        have B1407 := B1343.all k1386 Apart.none
        have B1408 := B1344.all k1386 id
        have B1409 := B1345.all k1386 Apart.none
        have B1410 := B1346.all k1386 Apart.none
        have B1411 := B1347.all k1386 Apart.none
        have K1413 := K1348.tr k1386
        replace hY1390 : Blk w1385 p1382 68 (buB (cpB (decTo g h Q 1 (plN W 1) L (plOff W H 1) (frTo g h Q W H L 1) i1) g h ((1 : Nat) : Int) (4 * pX (plN W 1) i1) (4 * pY (plN W 1) i1) (L.getD (plOff W H 1 + i1) ⟨0, 0, 0, 0, 0, fun _ => 0⟩)) (L.getD (plOff W H 1 + i1) ⟨0, 0, 0, 0, 0, fun _ => 0⟩).b Q) := hY1390
        obtain ⟨s1433, s1434, s1435, s1436, s1437, s1438, s1439, s1440, s1441, s1442, s1443, s1444, s1445⟩ := t13 hF1394 5 s1367 6 s1368 8 s1369 9 s1370 10 s1371 14 s1372 16 s1373 18 s1374 19 s1375 20 s1376 134 s1377 17 s1378 21 s1379
        have s1446 : F1384 24 = pt p1382 0 := (hF1394 24).trans (hA1392 11 rfl)
        clear hF1394 hV1393 hA1392 hN1391 hG1389
        refine then_normal (wq_seq ?_)
        refine wq_tail 12 [some 119, some 120, some 121, some 122, some 123, some 124, some 125, some 126, some 127, some 128, some 129, some 130] [Pd.eq (.agg #[iv ((decTo g h Q 1 (plN W 1) L (plOff W H 1) (frTo g h Q W H L 1) i1).W), iv ((decTo g h Q 1 (plN W 1) L (plOff W H 1) (frTo g h Q W H L 1) i1).H), a1, b1, c1]), Pd.eq (iv ((1 : Nat) : Int)), Pd.eq (iv ((i1 : Nat) : Int)), Pd.eq (iv ((plN W 1 : Nat) : Int)), Pd.eq (iv (pX (plN W 1) i1)), Pd.eq (iv (4 * pX (plN W 1) i1)), Pd.eq (iv ((i1 : Nat) : Int)), Pd.eq (iv ((plN W 1 : Nat) : Int)), Pd.eq (iv (pY (plN W 1) i1)), Pd.eq (iv (4 * pY (plN W 1) i1)), Pd.eq (blkV (buB (cpB (decTo g h Q 1 (plN W 1) L (plOff W H 1) (frTo g h Q W H L 1) i1) g h ((1 : Nat) : Int) (4 * pX (plN W 1) i1) (4 * pY (plN W 1) i1) (L.getD (plOff W H 1 + i1) ⟨0, 0, 0, 0, 0, fun _ => 0⟩)) (L.getD (plOff W H 1 + i1) ⟨0, 0, 0, 0, 0, fun _ => 0⟩).b Q)), Pd.frmN w1385.heap.size (putFr (decTo g h Q 1 (plN W 1) L (plOff W H 1) (frTo g h Q W H L 1) i1) ((1 : Nat) : Int) (4 * pX (plN W 1) i1) (4 * pY (plN W 1) i1) (buB (cpB (decTo g h Q 1 (plN W 1) L (plOff W H 1) (frTo g h Q W H L 1) i1) g h ((1 : Nat) : Int) (4 * pX (plN W 1) i1) (4 * pY (plN W 1) i1) (L.getD (plOff W H 1 + i1) ⟨0, 0, 0, 0, 0, fun _ => 0⟩)) (L.getD (plOff W H 1 + i1) ⟨0, 0, 0, 0, 0, fun _ => 0⟩).b Q))] (by kernel_rfl) (by kernel_rfl) (by kernel_rfl) ?_ ?_
        ·refine stepsF_cons ?_ ?_
         ·refine StepF.one rfl fun F_ w_ hR hout hD => ?_
          exact (y_load_stc stcT_frame rfl ((hout 16 rfl (by decide)).trans s1439) (B1408.all hR id) ⟨rfl, Kept.refl _ _⟩)
         refine stepsF_cons ?_ ?_
         ·refine StepF.one rfl fun F_ w_ hR hout hD => ?_
          exact (y_mov rfl ((hout 18 rfl (by decide)).trans s1440) ⟨rfl, Kept.refl _ _⟩)
         refine stepsF_cons ?_ ?_
         ·refine StepF.one rfl fun F_ w_ hR hout hD => ?_
          exact (y_mov rfl ((hout 21 rfl (by decide)).trans s1445) ⟨rfl, Kept.refl _ _⟩)
         refine stepsF_cons ?_ ?_
         ·refine StepF.one rfl fun F_ w_ hR hout hD => ?_
          exact (y_mov rfl ((hout 19 rfl (by decide)).trans s1441) ⟨rfl, Kept.refl _ _⟩)
         refine stepsF_cons ?_ ?_
         ·refine StepF.one rfl fun F_ w_ hR hout hD => ?_
          have g121 : F_ 121 = iv ((i1 : Nat) : Int) := (hD.get 0 rfl rfl rfl)
          have g122 : F_ 122 = iv ((plN W 1 : Nat) : Int) := (hD.get 1 rfl rfl rfl)
          exact (y_rem rfl g121 g122 (by first | decide | omega) (rem_nat i1 (plN W 1)) ⟨rfl, Kept.refl _ _⟩)
         refine stepsF_cons ?_ ?_
         ·refine StepF.one rfl fun F_ w_ hR hout hD => ?_
          have g123 : F_ 123 = iv (pX (plN W 1) i1) := (hD.get 0 rfl rfl rfl)
          exact (y_mul rfl rfl g123 (i64_i rfl (by omega)) ⟨rfl, Kept.refl _ _⟩)
         refine stepsF_cons ?_ ?_
         ·refine StepF.one rfl fun F_ w_ hR hout hD => ?_
          exact (y_mov rfl ((hout 21 rfl (by decide)).trans s1445) ⟨rfl, Kept.refl _ _⟩)
         refine stepsF_cons ?_ ?_
         ·refine StepF.one rfl fun F_ w_ hR hout hD => ?_
          exact (y_mov rfl ((hout 19 rfl (by decide)).trans s1441) ⟨rfl, Kept.refl _ _⟩)
         refine stepsF_cons ?_ ?_
         ·refine StepF.one rfl fun F_ w_ hR hout hD => ?_
          have g125 : F_ 125 = iv ((i1 : Nat) : Int) := (hD.get 0 rfl rfl rfl)
          have g126 : F_ 126 = iv ((plN W 1 : Nat) : Int) := (hD.get 1 rfl rfl rfl)
          exact (y_quo rfl g125 g126 (by first | decide | omega) (i64_n (quo_nat i1 (plN W 1)) (by omega)) ⟨rfl, Kept.refl _ _⟩)
         refine stepsF_cons ?_ ?_
         ·refine StepF.one rfl fun F_ w_ hR hout hD => ?_
          have g127 : F_ 127 = iv (pY (plN W 1) i1) := (hD.get 0 rfl rfl rfl)
          exact (y_mul rfl rfl g127 (i64_i rfl (by omega)) ⟨rfl, Kept.refl _ _⟩)
         refine stepsF_cons ?_ ?_
         ·refine StepF.one rfl fun F_ w_ hR hout hD => ?_
          exact (y_load_blk blkT_arr rfl ((hout 24 rfl (by decide)).trans s1446) (hY1390.all hR id) ⟨rfl, Kept.refl _ _⟩)
         refine stepsF_cons ?_ ?_
         ·refine StepF.one rfl fun F_ w_ hR hout hD => ?_
          have g119 : F_ 119 = .agg #[iv ((decTo g h Q 1 (plN W 1) L (plOff W H 1) (frTo g h Q W H L 1) i1).W), iv ((decTo g h Q 1 (plN W 1) L (plOff W H 1) (frTo g h Q W H L 1) i1).H), a1, b1, c1] := (hD.get 0 rfl rfl rfl)
          have g120 : F_ 120 = iv ((1 : Nat) : Int) := (hD.get 1 rfl rfl rfl)
          have g124 : F_ 124 = iv (4 * pX (plN W 1) i1) := (hD.get 2 rfl rfl rfl)
          have g128 : F_ 128 = iv (4 * pY (plN W 1) i1) := (hD.get 3 rfl rfl rfl)
          have g129 : F_ 129 = blkV (buB (cpB (decTo g h Q 1 (plN W 1) L (plOff W H 1) (frTo g h Q W H L 1) i1) g h ((1 : Nat) : Int) (4 * pX (plN W 1) i1) (4 * pY (plN W 1) i1) (L.getD (plOff W H 1 + i1) ⟨0, 0, 0, 0, 0, fun _ => 0⟩)) (L.getD (plOff W H 1 + i1) ⟨0, 0, 0, 0, 0, fun _ => 0⟩).b Q) := (hD.get 4 rfl rfl rfl)
          exact (y_cs rfl rfl rfl (fun _ _ => by kernel_rfl) (ev_func _) (vsC g119 (vsC g120 (vsC g124 (vsC g128 (vsC g129 vsN))))) (fref_put ((1 : Nat) : Int) (4 * pX (plN W 1) i1) (4 * pY (plN W 1) i1) (buB (cpB (decTo g h Q 1 (plN W 1) L (plOff W H 1) (frTo g h Q W H L 1) i1) g h ((1 : Nat) : Int) (4 * pX (plN W 1) i1) (4 * pY (plN W 1) i1) (L.getD (plOff W H 1 + i1) ⟨0, 0, 0, 0, 0, fun _ => 0⟩)) (L.getD (plOff W H 1 + i1) ⟨0, 0, 0, 0, 0, fun _ => 0⟩).b Q) (decTo g h Q 1 (plN W 1) L (plOff W H 1) (frTo g h Q W H L 1) i1) a1 b1 c1 T1214 T1215 T1216 _  (B1409.all hR Apart.none).byt (B1410.all hR Apart.none).byt (B1411.all hR Apart.none).byt ) (fun e_ w_ h_ => by obtain ⟨a_, Ta_, b_, Tb_, c_, Tc_, he_, k_, ha_, hb_, hc_, ab_, ac_, bc_⟩ := h_; exact ⟨_, he_, ⟨a_, b_, c_, Ta_, Tb_, Tc_, rfl, ha_.1, hb_.1, hc_.1, lie_at hR ha_.2, lie_at hR hb_.2, lie_at hR hc_.2, ab_, ac_, bc_⟩, k_⟩))
         exact stepsF_nil
        intro v1450 F1451 w1452 k1453 G1454 hF1455
        have B1457 := B1395.all k1453 Apart.none
        have B1458 := B1396.all k1453 Apart.none
        have B1459 := B1397.all k1453 Apart.none
        have B1460 := B1398.all k1453 Apart.none
        have B1461 := B1399.all k1453 Apart.none
        have B1462 := B1400.all k1453 Apart.none
        have B1463 := B1401.all k1453 Apart.none
        have B1464 := B1402.all k1453 id
        have B1465 := B1403.all k1453 id
        have B1466 := B1404.all k1453 id
        have B1467 := B1405.all k1453 id
        have B1468 := B1406.all k1453 id
        have B1469 := B1407.all k1453 Apart.none
        have B1470 := B1408.all k1453 id
        have K1476 := K1413.tr k1453
        obtain ⟨s1477, s1478, s1479, s1480, s1481, s1482, s1483, s1484, s1485, s1486, s1487, s1488, s1489⟩ := t13 hF1455 5 s1433 6 s1434 8 s1435 9 s1436 10 s1437 14 s1438 16 s1439 18 s1440 19 s1441 20 s1442 134 s1443 17 s1444 21 s1445
        obtain ⟨v1492, v1493, v1494, T1495, T1496, T1497, e1491, B1498, B1499, B1500, n1501, n1502, n1503, ap1504, ap1505, ap1506⟩ : FrmN w1452 w1385.heap.size (v1450 11) (putFr (decTo g h Q 1 (plN W 1) L (plOff W H 1) (frTo g h Q W H L 1) i1) ((1 : Nat) : Int) (4 * pX (plN W 1) i1) (4 * pY (plN W 1) i1) (buB (cpB (decTo g h Q 1 (plN W 1) L (plOff W H 1) (frTo g h Q W H L 1) i1) g h ((1 : Nat) : Int) (4 * pX (plN W 1) i1) (4 * pY (plN W 1) i1) (L.getD (plOff W H 1 + i1) ⟨0, 0, 0, 0, 0, fun _ => 0⟩)) (L.getD (plOff W H 1 + i1) ⟨0, 0, 0, 0, 0, fun _ => 0⟩).b Q)) := G1454 11 (by decide)
        have gr1507 : Grew w0 noB T1495 := Grew.new K1413 (lie_grew n1501)
        have ap1508 : Apart T1495 T_b := Apart.new (lie_grew n1501) B1395.live
        have ap1509 : Apart T1495 T_g0 := Apart.new (lie_grew n1501) B1396.live
        have ap1510 : Apart T1495 T_g1 := Apart.new (lie_grew n1501) B1397.live
        have ap1511 : Apart T1495 T_g2 := Apart.new (lie_grew n1501) B1398.live
        have ap1512 : Apart T1495 T_h0 := Apart.new (lie_grew n1501) B1399.live
        have ap1513 : Apart T1495 T_h1 := Apart.new (lie_grew n1501) B1400.live
        have ap1514 : Apart T1495 T_h2 := Apart.new (lie_grew n1501) B1401.live
        have ap1515 : Apart T1495 (onB p1) := Apart.new (lie_grew n1501) (onB_live B1402.lt)
        have ap1516 : Apart T1495 (onB p22) := Apart.new (lie_grew n1501) (onB_live B1403.lt)
        have ap1517 : Apart T1495 (onB p45) := Apart.new (lie_grew n1501) (onB_live B1404.lt)
        have ap1518 : Apart T1495 (onB p70) := Apart.new (lie_grew n1501) (onB_live B1405.lt)
        have ap1519 : Apart T1495 (onB p97) := Apart.new (lie_grew n1501) (onB_live B1406.lt)
        have ap1520 : Apart T1495 T416 := Apart.new (lie_grew n1501) B1407.live
        have ap1521 : Apart T1495 (onB p562) := Apart.new (lie_grew n1501) (onB_live B1408.lt)
        have gr1527 : Grew w0 noB T1496 := Grew.new K1413 (lie_grew n1502)
        have ap1528 : Apart T1496 T_b := Apart.new (lie_grew n1502) B1395.live
        have ap1529 : Apart T1496 T_g0 := Apart.new (lie_grew n1502) B1396.live
        have ap1530 : Apart T1496 T_g1 := Apart.new (lie_grew n1502) B1397.live
        have ap1531 : Apart T1496 T_g2 := Apart.new (lie_grew n1502) B1398.live
        have ap1532 : Apart T1496 T_h0 := Apart.new (lie_grew n1502) B1399.live
        have ap1533 : Apart T1496 T_h1 := Apart.new (lie_grew n1502) B1400.live
        have ap1534 : Apart T1496 T_h2 := Apart.new (lie_grew n1502) B1401.live
        have ap1535 : Apart T1496 (onB p1) := Apart.new (lie_grew n1502) (onB_live B1402.lt)
        have ap1536 : Apart T1496 (onB p22) := Apart.new (lie_grew n1502) (onB_live B1403.lt)
        have ap1537 : Apart T1496 (onB p45) := Apart.new (lie_grew n1502) (onB_live B1404.lt)
        have ap1538 : Apart T1496 (onB p70) := Apart.new (lie_grew n1502) (onB_live B1405.lt)
        have ap1539 : Apart T1496 (onB p97) := Apart.new (lie_grew n1502) (onB_live B1406.lt)
        have ap1540 : Apart T1496 T416 := Apart.new (lie_grew n1502) B1407.live
        have ap1541 : Apart T1496 (onB p562) := Apart.new (lie_grew n1502) (onB_live B1408.lt)
        have gr1547 : Grew w0 noB T1497 := Grew.new K1413 (lie_grew n1503)
        have ap1548 : Apart T1497 T_b := Apart.new (lie_grew n1503) B1395.live
        have ap1549 : Apart T1497 T_g0 := Apart.new (lie_grew n1503) B1396.live
        have ap1550 : Apart T1497 T_g1 := Apart.new (lie_grew n1503) B1397.live
        have ap1551 : Apart T1497 T_g2 := Apart.new (lie_grew n1503) B1398.live
        have ap1552 : Apart T1497 T_h0 := Apart.new (lie_grew n1503) B1399.live
        have ap1553 : Apart T1497 T_h1 := Apart.new (lie_grew n1503) B1400.live
        have ap1554 : Apart T1497 T_h2 := Apart.new (lie_grew n1503) B1401.live
        have ap1555 : Apart T1497 (onB p1) := Apart.new (lie_grew n1503) (onB_live B1402.lt)
        have ap1556 : Apart T1497 (onB p22) := Apart.new (lie_grew n1503) (onB_live B1403.lt)
        have ap1557 : Apart T1497 (onB p45) := Apart.new (lie_grew n1503) (onB_live B1404.lt)
        have ap1558 : Apart T1497 (onB p70) := Apart.new (lie_grew n1503) (onB_live B1405.lt)
        have ap1559 : Apart T1497 (onB p97) := Apart.new (lie_grew n1503) (onB_live B1406.lt)
        have ap1560 : Apart T1497 T416 := Apart.new (lie_grew n1503) B1407.live
        have ap1561 : Apart T1497 (onB p562) := Apart.new (lie_grew n1503) (onB_live B1408.lt)
        have s1490 : F1451 130 = .agg #[iv ((putFr (decTo g h Q 1 (plN W 1) L (plOff W H 1) (frTo g h Q W H L 1) i1) ((1 : Nat) : Int) (4 * pX (plN W 1) i1) (4 * pY (plN W 1) i1) (buB (cpB (decTo g h Q 1 (plN W 1) L (plOff W H 1) (frTo g h Q W H L 1) i1) g h ((1 : Nat) : Int) (4 * pX (plN W 1) i1) (4 * pY (plN W 1) i1) (L.getD (plOff W H 1 + i1) ⟨0, 0, 0, 0, 0, fun _ => 0⟩)) (L.getD (plOff W H 1 + i1) ⟨0, 0, 0, 0, 0, fun _ => 0⟩).b Q)).W), iv ((putFr (decTo g h Q 1 (plN W 1) L (plOff W H 1) (frTo g h Q W H L 1) i1) ((1 : Nat) : Int) (4 * pX (plN W 1) i1) (4 * pY (plN W 1) i1) (buB (cpB (decTo g h Q 1 (plN W 1) L (plOff W H 1) (frTo g h Q W H L 1) i1) g h ((1 : Nat) : Int) (4 * pX (plN W 1) i1) (4 * pY (plN W 1) i1) (L.getD (plOff W H 1 + i1) ⟨0, 0, 0, 0, 0, fun _ => 0⟩)) (L.getD (plOff W H 1 + i1) ⟨0, 0, 0, 0, 0, fun _ => 0⟩).b Q)).H), v1492, v1493, v1494] := (hF1455 130).trans e1491
        clear G1454 hF1455
        refine wl_store_stc (us := [iv ((putFr (decTo g h Q 1 (plN W 1) L (plOff W H 1) (frTo g h Q W H L 1) i1) ((1 : Nat) : Int) (4 * pX (plN W 1) i1) (4 * pY (plN W 1) i1) (buB (cpB (decTo g h Q 1 (plN W 1) L (plOff W H 1) (frTo g h Q W H L 1) i1) g h ((1 : Nat) : Int) (4 * pX (plN W 1) i1) (4 * pY (plN W 1) i1) (L.getD (plOff W H 1 + i1) ⟨0, 0, 0, 0, 0, fun _ => 0⟩)) (L.getD (plOff W H 1 + i1) ⟨0, 0, 0, 0, 0, fun _ => 0⟩).b Q)).W), iv ((putFr (decTo g h Q 1 (plN W 1) L (plOff W H 1) (frTo g h Q W H L 1) i1) ((1 : Nat) : Int) (4 * pX (plN W 1) i1) (4 * pY (plN W 1) i1) (buB (cpB (decTo g h Q 1 (plN W 1) L (plOff W H 1) (frTo g h Q W H L 1) i1) g h ((1 : Nat) : Int) (4 * pX (plN W 1) i1) (4 * pY (plN W 1) i1) (L.getD (plOff W H 1 + i1) ⟨0, 0, 0, 0, 0, fun _ => 0⟩)) (L.getD (plOff W H 1 + i1) ⟨0, 0, 0, 0, 0, fun _ => 0⟩).b Q)).H), v1492, v1493, v1494]) stcT_frame rfl rfl rfl s1483 s1490 B1470 rfl (oneI rfl (oneI rfl (oneI B1498.one (oneI B1499.one (oneI B1500.one oneN))))) fun w1567 B1568 k1569 => ?_
        have B1570 := B1457.all k1569 ap568.symm
        have B1571 := B1458.all k1569 ap569.symm
        have B1572 := B1459.all k1569 ap570.symm
        have B1573 := B1460.all k1569 ap571.symm
        have B1574 := B1461.all k1569 ap572.symm
        have B1575 := B1462.all k1569 ap573.symm
        have B1576 := B1463.all k1569 ap574.symm
        have B1577 := B1464.all k1569 (ap575.symm p1 rfl)
        have B1578 := B1465.all k1569 (ap576.symm p22 rfl)
        have B1579 := B1466.all k1569 (ap577.symm p45 rfl)
        have B1580 := B1467.all k1569 (ap578.symm p70 rfl)
        have B1581 := B1468.all k1569 (ap579.symm p97 rfl)
        have B1582 := B1469.all k1569 ap580.symm
        have B1588 := B1498.all k1569 ap1521
        have B1589 := B1499.all k1569 ap1541
        have B1590 := B1500.all k1569 ap1561
        have K1591 := K1476.trans k1569 (Grew.ok (S := fun _ => False) gr567 noB_le)
        refine wl_nil fun F1592 hF1593 => ?_
        obtain ⟨s1594, s1595, s1596, s1597, s1598, s1599, s1600, s1601, s1602, s1603, s1604, s1605, s1606⟩ := t13 hF1593 5 s1477 6 s1478 8 s1479 9 s1480 10 s1481 14 s1482 16 s1483 18 s1484 19 s1485 20 s1486 134 s1487 17 s1488 21 s1489
        clear hF1593
        refine then_normal (wq_region (wl_mv rfl rfl rfl s1605 (wl_v (iv (((plOff W H 1 + i1) + 1 : Nat) : Int)) rfl rfl (y_add rfl rfl rfl (i64_n (by omega) (by omega)) rr) (wl_v (iv (((plOff W H 1 + i1) + 1 : Nat) : Int)) rfl rfl (y_asg rfl rfl rr) (wl_nil fun F1607 hF1608 => ?_)))))
        obtain ⟨s1609, s1610, s1611, s1612, s1613, s1614, s1615, s1616, s1617, s1618, s1619, s1620⟩ := t12 hF1608 5 s1594 6 s1595 8 s1596 9 s1597 10 s1598 14 s1599 16 s1600 18 s1601 19 s1602 20 s1603 134 s1604 21 s1606
        have s1621 : F1607 17 = iv (((plOff W H 1 + i1) + 1 : Nat) : Int) := (hF1608 17).trans rfl
        clear hF1608
        refine in_normal (then_normal (wq_region (wl_mv rfl rfl rfl s1620 (wl_v (iv ((i1 + 1 : Nat) : Int)) rfl rfl (y_add rfl rfl rfl (i64_n (by omega) (by omega)) rr) (wl_v (iv ((i1 + 1 : Nat) : Int)) rfl rfl (y_asg rfl rfl rr) (wl_nil fun F1622 hF1623 => ?_))))))
        obtain ⟨s1624, s1625, s1626, s1627, s1628, s1629, s1630, s1631, s1632, s1633, s1634, s1635⟩ := t12 hF1623 5 s1609 6 s1610 8 s1611 9 s1612 10 s1613 14 s1614 16 s1615 18 s1616 19 s1617 20 s1618 134 s1619 17 s1621
        have s1636 : F1622 21 = iv ((i1 + 1 : Nat) : Int) := (hF1623 21).trans rfl
        clear hF1623
        exact then_normal ⟨((plN W 1 * plN H 1) - (i1 + 1)), by omega, i1 + 1, v1492, v1493, v1494, T1495, T1496, T1497, by omega, rfl, s1624, s1625, s1626, s1627, s1628, s1629, s1630, s1631, s1632, s1633, s1634, (by have h_ := s1635; exact h_), s1636, K1591, B1570, B1571, B1572, B1573, B1574, B1575, B1576, B1577, B1578, B1579, B1580, B1581, B1582, B1568, B1588, B1589, B1590, gr1507, gr1527, gr1547, ap1508, ap1509, ap1510, ap1511, ap1512, ap1513, ap1514, ap1515, ap1516, ap1517, ap1518, ap1519, ap1520, ap1521, ap1504, ap1505, ap1528, ap1529, ap1530, ap1531, ap1532, ap1533, ap1534, ap1535, ap1536, ap1537, ap1538, ap1539, ap1540, ap1541, ap1506, ap1548, ap1549, ap1550, ap1551, ap1552, ap1553, ap1554, ap1555, ap1556, ap1557, ap1558, ap1559, ap1560, ap1561⟩
       ·replace c1316 := of_decide_eq_false c1316
        refine wq_exit (then_exit (then_exit ?_))
        have l1637 : (plN W 1 * plN H 1) = i1 := by omega
        subst l1637
        refine in_here (in_normal (then_normal (wq_region (wl_mv rfl rfl rfl s1309 (wl_v (iv ((2 : Nat) : Int)) rfl rfl (y_add rfl rfl rfl (i64_n (by omega) (by omega)) rr) (wl_v (iv ((2 : Nat) : Int)) rfl rfl (y_asg rfl rfl rr) (wl_nil fun F1638 hF1639 => ?_)))))))
        obtain ⟨s1640, s1641, s1642, s1643, s1644, s1645, s1646, s1647, s1648⟩ := t9 hF1639 5 s1302 6 s1303 8 s1304 9 s1305 10 s1306 14 s1307 16 s1308 134 s1312 17 s1313
        have s1649 : F1638 18 = iv ((2 : Nat) : Int) := (hF1639 18).trans rfl
        clear hF1639
        refine then_normal (wqr_step (wq_seq (wq_seq (wq_region (wl_mv rfl rfl rfl s1649 (wl_v (.bool true) rfl rfl (y_lss rfl rfl rfl rfl rr) (wl_nil fun F1650 hF1651 => ?_)))))))
        obtain ⟨s1652, s1653, s1654, s1655, s1656, s1657, s1658, s1659, s1660, s1661⟩ := t10 hF1651 5 s1640 6 s1641 8 s1642 9 s1643 10 s1644 14 s1645 16 s1646 134 s1647 17 s1648 18 s1649
        have s1662 : F1650 72 = .bool true := (hF1651 72).trans rfl
        clear hF1651
        refine then_normal ?_
        refine wq_cond (t := true) s1662 (fun _ => ?_) (fun e => by cases e)
        refine wq_skip (then_normal (wq_seq (wq_block (wq_seq (wq_region (wl_v (.agg #[iv W, iv H, iv R, iv B]) rfl rfl (y_load_stc stcT_seq rfl s1652 B1242 rr) (wl_mv rfl rfl rfl s1661 (wl_cs rfl rfl rfl rfl rfl (fun _ _ => by kernel_rfl) (vsC rfl (vsC rfl vsN)) (pcref_blocks W H R B 2  _ (by assumption)  ) fun w1663 k1664 => ?_))))))))
        have B1665 := B1235.all k1664 Apart.none
        have B1666 := B1236.all k1664 Apart.none
        have B1667 := B1237.all k1664 Apart.none
        have B1668 := B1238.all k1664 Apart.none
        have B1669 := B1239.all k1664 Apart.none
        have B1670 := B1240.all k1664 Apart.none
        have B1671 := B1241.all k1664 Apart.none
        have B1672 := B1242.all k1664 id
        have B1673 := B1243.all k1664 id
        have B1674 := B1244.all k1664 id
        have B1675 := B1245.all k1664 id
        have B1676 := B1246.all k1664 id
        have B1677 := B1247.all k1664 Apart.none
        have B1678 := B1248.all k1664 id
        have B1679 := B1249.all k1664 Apart.none
        have B1680 := B1250.all k1664 Apart.none
        have B1681 := B1251.all k1664 Apart.none
        have K1682 := K1219.tr k1664
        refine wl_v (.tuple #[iv ((plN W 2 : Nat) : Int), iv ((plN H 2 : Nat) : Int)]) rfl rfl (y_mov rfl rfl rr) (wl_v (iv ((plN W 2 : Nat) : Int)) rfl rfl (y_ext rfl rfl rfl rr) (wl_v (iv ((plN H 2 : Nat) : Int)) rfl rfl (y_ext rfl rfl rfl rr) (wl_v (iv ((plN W 2 : Nat) : Int)) rfl rfl (y_asg rfl rfl rr) (wl_v (iv ((plN H 2 : Nat) : Int)) rfl rfl (y_asg rfl rfl rr) (wl_nil fun F1683 hF1684 => ?_)))))
        obtain ⟨s1685, s1686, s1687, s1688, s1689, s1690, s1691, s1692, s1693, s1694⟩ := t10 hF1684 5 s1652 6 s1653 8 s1654 9 s1655 10 s1656 14 s1657 16 s1658 134 s1659 17 s1660 18 s1661
        have s1695 : F1683 19 = iv ((plN W 2 : Nat) : Int) := (hF1684 19).trans rfl
        have s1696 : F1683 20 = iv ((plN H 2 : Nat) : Int) := (hF1684 20).trans rfl
        clear hF1684
        refine then_normal (wq_seq ?_)
        have hw0 := plN_pos (W := W) (p := 2) hsd.1
        have hw1 := plN_le (W := W) (p := 2) hsd.2.1
        have hn1 := plN_le (W := H) (p := 2) hsd.2.2.2.2.1
        have hwn : plN W 2 * plN H 2 ≤ 16 * 16 := Nat.mul_le_mul hw1 hn1
        have hofn := hof 2 (by decide)
        refine wq_region (wl_v (iv 0) rfl rfl (y_asg rfl rfl rr) (wl_nil fun F1697 hF1698 => ?_))
        obtain ⟨s1699, s1700, s1701, s1702, s1703, s1704, s1705, s1706, s1707, s1708, s1709, s1710⟩ := t12 hF1698 5 s1685 6 s1686 8 s1687 9 s1688 10 s1689 14 s1690 16 s1691 134 s1692 17 s1693 18 s1694 19 s1695 20 s1696
        have s1711 : F1697 21 = iv 0 := (hF1698 21).trans rfl
        clear hF1698
        refine then_normal (wq_block (wq_loop (fun nn FF ww => ∃ (i2 : Nat), ∃ (a2 : Value), ∃ (b2 : Value), ∃ (c2 : Value), ∃ (T1712 : Nat → Prop), ∃ (T1713 : Nat → Prop), ∃ (T1714 : Nat → Prop), (i2 ≤ (plN W 2 * plN H 2)) ∧ nn = (plN W 2 * plN H 2) - i2 ∧ FF 5 = pt p1 0 ∧ FF 6 = pt p22 0 ∧ FF 8 = pt p45 0 ∧ FF 9 = pt p70 0 ∧ FF 10 = pt p97 0 ∧ FF 14 = v413 ∧ FF 16 = pt p562 0 ∧ FF 18 = iv ((2 : Nat) : Int) ∧ FF 19 = iv ((plN W 2 : Nat) : Int) ∧ FF 20 = iv ((plN H 2 : Nat) : Int) ∧ FF 134 = undef ∧ FF 17 = iv (((plOff W H 2 + i2) : Nat) : Int) ∧ FF 21 = iv ((i2 : Nat) : Int) ∧ Kept (fun _ => False) w0 ww ∧ Byt ww T_b v l ∧ Byt ww T_g0 g0 (g.p0) ∧ Byt ww T_g1 g1 (g.p1) ∧ Byt ww T_g2 g2 (g.p2) ∧ Byt ww T_h0 h0 (h.p0) ∧ Byt ww T_h1 h1 (h.p1) ∧ Byt ww T_h2 h2 (h.p2) ∧ Stc ww p1 23 [iv W, iv H, iv R, iv B] ∧ Stc ww p22 25 [iv K, iv Q, iv D, iv F] ∧ Stc ww p45 29 [iv (g.W), iv (g.H), g0, g1, g2] ∧ Stc ww p70 29 [iv (h.W), iv (h.H), h0, h1, h2] ∧ Stc ww p97 29 [iv 0, iv 0, .slice none 0 0, .slice none 0 0, .slice none 0 0] ∧ RoO rCh ww T416 v413 L ∧ Stc ww p562 29 [iv ((decTo g h Q 2 (plN W 2) L (plOff W H 2) (frTo g h Q W H L 2) i2).W), iv ((decTo g h Q 2 (plN W 2) L (plOff W H 2) (frTo g h Q W H L 2) i2).H), a2, b2, c2] ∧ Owb ww T1712 a2 ((decTo g h Q 2 (plN W 2) L (plOff W H 2) (frTo g h Q W H L 2) i2).p0) ∧ Owb ww T1713 b2 ((decTo g h Q 2 (plN W 2) L (plOff W H 2) (frTo g h Q W H L 2) i2).p1) ∧ Owb ww T1714 c2 ((decTo g h Q 2 (plN W 2) L (plOff W H 2) (frTo g h Q W H L 2) i2).p2) ∧ Grew w0 noB T1712 ∧ Grew w0 noB T1713 ∧ Grew w0 noB T1714 ∧ Apart T1712 T_b ∧ Apart T1712 T_g0 ∧ Apart T1712 T_g1 ∧ Apart T1712 T_g2 ∧ Apart T1712 T_h0 ∧ Apart T1712 T_h1 ∧ Apart T1712 T_h2 ∧ Apart T1712 (onB p1) ∧ Apart T1712 (onB p22) ∧ Apart T1712 (onB p45) ∧ Apart T1712 (onB p70) ∧ Apart T1712 (onB p97) ∧ Apart T1712 T416 ∧ Apart T1712 (onB p562) ∧ Apart T1712 T1713 ∧ Apart T1712 T1714 ∧ Apart T1713 T_b ∧ Apart T1713 T_g0 ∧ Apart T1713 T_g1 ∧ Apart T1713 T_g2 ∧ Apart T1713 T_h0 ∧ Apart T1713 T_h1 ∧ Apart T1713 T_h2 ∧ Apart T1713 (onB p1) ∧ Apart T1713 (onB p22) ∧ Apart T1713 (onB p45) ∧ Apart T1713 (onB p70) ∧ Apart T1713 (onB p97) ∧ Apart T1713 T416 ∧ Apart T1713 (onB p562) ∧ Apart T1713 T1714 ∧ Apart T1714 T_b ∧ Apart T1714 T_g0 ∧ Apart T1714 T_g1 ∧ Apart T1714 T_g2 ∧ Apart T1714 T_h0 ∧ Apart T1714 T_h1 ∧ Apart T1714 T_h2 ∧ Apart T1714 (onB p1) ∧ Apart T1714 (onB p22) ∧ Apart T1714 (onB p45) ∧ Apart T1714 (onB p70) ∧ Apart T1714 (onB p97) ∧ Apart T1714 T416 ∧ Apart T1714 (onB p562)) ((plN W 2 * plN H 2) - 0) ⟨0, a1, b1, c1, T1214, T1215, T1216, by omega, rfl, s1699, s1700, s1701, s1702, s1703, s1704, s1705, s1708, s1709, s1710, s1706, (by have h_ := s1707; exact h_), s1711, K1682, B1665, B1666, B1667, B1668, B1669, B1670, B1671, B1672, B1673, B1674, B1675, B1676, B1677, (by have h_ := B1678; exact h_), (by have h_ := B1679; exact h_), (by have h_ := B1680; exact h_), (by have h_ := B1681; exact h_), gr1252, gr1253, gr1254, ap1255, ap1256, ap1257, ap1258, ap1259, ap1260, ap1261, ap1262, ap1263, ap1264, ap1265, ap1266, ap1267, ap1268, ap1269, ap1270, ap1271, ap1272, ap1273, ap1274, ap1275, ap1276, ap1277, ap1278, ap1279, ap1280, ap1281, ap1282, ap1283, ap1284, ap1285, ap1286, ap1287, ap1288, ap1289, ap1290, ap1291, ap1292, ap1293, ap1294, ap1295, ap1296, ap1297, ap1298, ap1299⟩ ?_))
        rintro n1718 F1715 w1716 ⟨i2, a2, b2, c2, T1712, T1713, T1714, i1719, hn1718, s1720, s1721, s1722, s1723, s1724, s1725, s1726, s1727, s1728, s1729, s1730, s1731, s1732, K1717, B1733, B1734, B1735, B1736, B1737, B1738, B1739, B1740, B1741, B1742, B1743, B1744, B1745, B1746, B1747, B1748, B1749, gr1750, gr1751, gr1752, ap1753, ap1754, ap1755, ap1756, ap1757, ap1758, ap1759, ap1760, ap1761, ap1762, ap1763, ap1764, ap1765, ap1766, ap1767, ap1768, ap1769, ap1770, ap1771, ap1772, ap1773, ap1774, ap1775, ap1776, ap1777, ap1778, ap1779, ap1780, ap1781, ap1782, ap1783, ap1784, ap1785, ap1786, ap1787, ap1788, ap1789, ap1790, ap1791, ap1792, ap1793, ap1794, ap1795, ap1796, ap1797⟩
        refine wq_seq (wq_seq (wq_region (wl_mv rfl rfl rfl s1732 (wl_mv rfl rfl rfl s1728 (wl_mv rfl rfl rfl s1729 (wl_v (iv ((plN W 2 * plN H 2 : Nat) : Int)) rfl rfl (y_mul rfl rfl rfl (i64_n (by rw [Int.natCast_mul]) (by omega)) rr) (wl_v (.bool (decide (((i2 : Nat) : Int) < ((plN W 2 * plN H 2 : Nat) : Int)))) rfl rfl (y_lss rfl rfl rfl rfl rr) (wl_nil fun F1798 hF1799 => ?_))))))))
        obtain ⟨s1800, s1801, s1802, s1803, s1804, s1805, s1806, s1807, s1808, s1809, s1810, s1811, s1812⟩ := t13 hF1799 5 s1720 6 s1721 8 s1722 9 s1723 10 s1724 14 s1725 16 s1726 18 s1727 19 s1728 20 s1729 134 s1730 17 s1731 21 s1732
        have s1813 : F1798 85 = .bool (decide (((i2 : Nat) : Int) < ((plN W 2 * plN H 2 : Nat) : Int))) := (hF1799 85).trans rfl
        clear hF1799
        refine then_normal ?_
        refine wq_cond s1813 (fun c1814 => ?_) (fun c1814 => ?_)
        ·replace c1814 := of_decide_eq_true c1814
         refine wq_skip (then_normal (wq_seq (wq_block (wq_seq ?_))))
         have hdv := Nat.div_le_self i2 (plN W 2)
         have hxy := pXY_in (i := i2) hw0 hw1 (by omega)
         refine wq_cas (γ := Unit) [(17, 16), (18, 16), (19, 16), (21, 16), (22, 16), (21, 20), (22, 20)] [some 89, some 90, some 91, some 92, some 93, some 94, some 95, some 96, some 97, some 98, some 99, some 100, some 101, some 102, some 103, some 104, some 105, some 88, some 106, some 107, some 22, none, some 23] ⟨fun w_ => True, fun _ => False, fun g_ w_ => True, fun g_ => fun _ => False, fun p_ w_ => Blk w_ p_ 68 (fun _ => 0), fun g_ p_ w_ => Blk w_ p_ 68 (cpB (decTo g h Q 2 (plN W 2) L (plOff W H 2) (frTo g h Q W H L 2) i2) g h ((2 : Nat) : Int) (4 * pX (plN W 2) i2) (4 * pY (plN W 2) i2) (L.getD (plOff W H 2 + i2) ⟨0, 0, 0, 0, 0, fun _ => 0⟩))⟩ (fun _ => False) (fun p_ => w1716.heap.size ≤ p_) [fun g_ => .agg #[iv ((decTo g h Q 2 (plN W 2) L (plOff W H 2) (frTo g h Q W H L 2) i2).W), iv ((decTo g h Q 2 (plN W 2) L (plOff W H 2) (frTo g h Q W H L 2) i2).H), a2, b2, c2], fun g_ => .agg #[iv (g.W), iv (g.H), g0, g1, g2], fun g_ => .agg #[iv (h.W), iv (h.H), h0, h1, h2], fun g_ => iv ((2 : Nat) : Int), fun g_ => iv ((i2 : Nat) : Int), fun g_ => iv ((plN W 2 : Nat) : Int), fun g_ => iv (pX (plN W 2) i2), fun g_ => iv (4 * pX (plN W 2) i2), fun g_ => iv ((i2 : Nat) : Int), fun g_ => iv ((plN W 2 : Nat) : Int), fun g_ => iv (pY (plN W 2) i2), fun g_ => iv (4 * pY (plN W 2) i2), fun g_ => v413, fun g_ => iv (((plOff W H 2 + i2) : Nat) : Int), fun g_ => bytAddr v413 ((plOff W H 2 + i2) * 21), fun g_ => .agg (chW (L.getD (plOff W H 2 + i2) ⟨0, 0, 0, 0, 0, fun _ => 0⟩)).toArray, fun g_ => .tuple #[blkV (cpB (decTo g h Q 2 (plN W 2) L (plOff W H 2) (frTo g h Q W H L 2) i2) g h ((2 : Nat) : Int) (4 * pX (plN W 2) i2) (4 * pY (plN W 2) i2) (L.getD (plOff W H 2 + i2) ⟨0, 0, 0, 0, 0, fun _ => 0⟩)), iv (cpE (decTo g h Q 2 (plN W 2) L (plOff W H 2) (frTo g h Q W H L 2) i2) g h ((2 : Nat) : Int) (4 * pX (plN W 2) i2) (4 * pY (plN W 2) i2) (L.getD (plOff W H 2 + i2) ⟨0, 0, 0, 0, 0, fun _ => 0⟩))], fun g_ => .tuple #[blkV (cpB (decTo g h Q 2 (plN W 2) L (plOff W H 2) (frTo g h Q W H L 2) i2) g h ((2 : Nat) : Int) (4 * pX (plN W 2) i2) (4 * pY (plN W 2) i2) (L.getD (plOff W H 2 + i2) ⟨0, 0, 0, 0, 0, fun _ => 0⟩)), iv (cpE (decTo g h Q 2 (plN W 2) L (plOff W H 2) (frTo g h Q W H L 2) i2) g h ((2 : Nat) : Int) (4 * pX (plN W 2) i2) (4 * pY (plN W 2) i2) (L.getD (plOff W H 2 + i2) ⟨0, 0, 0, 0, 0, fun _ => 0⟩))], fun g_ => blkV (cpB (decTo g h Q 2 (plN W 2) L (plOff W H 2) (frTo g h Q W H L 2) i2) g h ((2 : Nat) : Int) (4 * pX (plN W 2) i2) (4 * pY (plN W 2) i2) (L.getD (plOff W H 2 + i2) ⟨0, 0, 0, 0, 0, fun _ => 0⟩)), fun g_ => iv (cpE (decTo g h Q 2 (plN W 2) L (plOff W H 2) (frTo g h Q W H L 2) i2) g h ((2 : Nat) : Int) (4 * pX (plN W 2) i2) (4 * pY (plN W 2) i2) (L.getD (plOff W H 2 + i2) ⟨0, 0, 0, 0, 0, fun _ => 0⟩)), fun _ => undef, fun _ => undef, fun g_ => iv (cpE (decTo g h Q 2 (plN W 2) L (plOff W H 2) (frTo g h Q W H L 2) i2) g h ((2 : Nat) : Int) (4 * pX (plN W 2) i2) (4 * pY (plN W 2) i2) (L.getD (plOff W H 2 + i2) ⟨0, 0, 0, 0, 0, fun _ => 0⟩))] 16 21 (some 20) () 0 (by kernel_rfl) (by kernel_rfl) (by kernel_rfl) (by kernel_rfl) ⟨.inr (.inr fun _ _ => rfl), ⟨.inr (.inr fun _ _ => rfl), ⟨.inr (.inr fun _ _ => rfl), ⟨.inr (.inr fun _ _ => rfl), ⟨.inr (.inr fun _ _ => rfl), ⟨.inr (.inr fun _ _ => rfl), ⟨.inr (.inr fun _ _ => rfl), ⟨.inr (.inr fun _ _ => rfl), ⟨.inr (.inr fun _ _ => rfl), ⟨.inr (.inr fun _ _ => rfl), ⟨.inr (.inr fun _ _ => rfl), ⟨.inr (.inr fun _ _ => rfl), ⟨.inr (.inr fun _ _ => rfl), ⟨.inr (.inr fun _ _ => rfl), ⟨.inr (.inr fun _ _ => rfl), ⟨.inr (.inr fun _ _ => rfl), ⟨.inr (.inl rfl), ⟨.inl rfl, ⟨.inl rfl, ⟨.inl rfl, ⟨.inr (.inr fun _ _ => rfl), ⟨.inl rfl, ⟨.inl rfl, trivial⟩⟩⟩⟩⟩⟩⟩⟩⟩⟩⟩⟩⟩⟩⟩⟩⟩⟩⟩⟩⟩⟩⟩ ⟨trivial, fun _ _ _ _ _ _ => trivial, fun _ _ _ z => z.elim, fun _ _ _ _ _ _ _ => trivial, fun _ _ _ _ z => z.elim, fun _ _ _ _ h k z => h.all k z, fun _ _ h => h.lt, fun _ _ _ _ _ h k z => h.all k z, fun _ z => z, fun _ h => .inr h, fun _ _ z => z⟩ (fun _ _ _ h => h) (fun e => by cases e) ?_ ?_
         ·refine stepsFX_cons ?_ ?_
          ·refine StepFX.one rfl rfl rfl rfl fun g_ p_ F_ w_ hR hout hD => ?_
           exact (y_load_stc stcT_frame rfl ((hout 16 rfl (by decide)).trans s1806) (B1746.all hR id) ⟨rfl, Kept.refl _ _⟩)
          refine stepsFX_cons ?_ ?_
          ·refine StepFX.one rfl rfl rfl rfl fun g_ p_ F_ w_ hR hout hD => ?_
           exact (y_load_stc stcT_frame rfl ((hout 8 rfl (by decide)).trans s1802) (B1742.all hR id) ⟨rfl, Kept.refl _ _⟩)
          refine stepsFX_cons ?_ ?_
          ·refine StepFX.one rfl rfl rfl rfl fun g_ p_ F_ w_ hR hout hD => ?_
           exact (y_load_stc stcT_frame rfl ((hout 9 rfl (by decide)).trans s1803) (B1743.all hR id) ⟨rfl, Kept.refl _ _⟩)
          refine stepsFX_cons ?_ ?_
          ·refine StepFX.one rfl rfl rfl rfl fun g_ p_ F_ w_ hR hout hD => ?_
           exact (y_mov rfl ((hout 18 rfl (by decide)).trans s1807) ⟨rfl, Kept.refl _ _⟩)
          refine stepsFX_cons ?_ ?_
          ·refine StepFX.one rfl rfl rfl rfl fun g_ p_ F_ w_ hR hout hD => ?_
           exact (y_mov rfl ((hout 21 rfl (by decide)).trans s1812) ⟨rfl, Kept.refl _ _⟩)
          refine stepsFX_cons ?_ ?_
          ·refine StepFX.one rfl rfl rfl rfl fun g_ p_ F_ w_ hR hout hD => ?_
           exact (y_mov rfl ((hout 19 rfl (by decide)).trans s1808) ⟨rfl, Kept.refl _ _⟩)
          refine stepsFX_cons ?_ ?_
          ·refine StepFX.one rfl rfl rfl rfl fun g_ p_ F_ w_ hR hout hD => ?_
           have g93 : F_ 93 = iv ((i2 : Nat) : Int) := (hD.get 0 rfl rfl rfl).2 (by decide)
           have g94 : F_ 94 = iv ((plN W 2 : Nat) : Int) := (hD.get 1 rfl rfl rfl).2 (by decide)
           exact (y_rem rfl g93 g94 (by first | decide | omega) (rem_nat i2 (plN W 2)) ⟨rfl, Kept.refl _ _⟩)
          refine stepsFX_cons ?_ ?_
          ·refine StepFX.one rfl rfl rfl rfl fun g_ p_ F_ w_ hR hout hD => ?_
           have g95 : F_ 95 = iv (pX (plN W 2) i2) := (hD.get 0 rfl rfl rfl).2 (by decide)
           exact (y_mul rfl rfl g95 (i64_i rfl (by omega)) ⟨rfl, Kept.refl _ _⟩)
          refine stepsFX_cons ?_ ?_
          ·refine StepFX.one rfl rfl rfl rfl fun g_ p_ F_ w_ hR hout hD => ?_
           exact (y_mov rfl ((hout 21 rfl (by decide)).trans s1812) ⟨rfl, Kept.refl _ _⟩)
          refine stepsFX_cons ?_ ?_
          ·refine StepFX.one rfl rfl rfl rfl fun g_ p_ F_ w_ hR hout hD => ?_
           exact (y_mov rfl ((hout 19 rfl (by decide)).trans s1808) ⟨rfl, Kept.refl _ _⟩)
          refine stepsFX_cons ?_ ?_
          ·refine StepFX.one rfl rfl rfl rfl fun g_ p_ F_ w_ hR hout hD => ?_
           have g97 : F_ 97 = iv ((i2 : Nat) : Int) := (hD.get 0 rfl rfl rfl).2 (by decide)
           have g98 : F_ 98 = iv ((plN W 2 : Nat) : Int) := (hD.get 1 rfl rfl rfl).2 (by decide)
           exact (y_quo rfl g97 g98 (by first | decide | omega) (i64_n (quo_nat i2 (plN W 2)) (by omega)) ⟨rfl, Kept.refl _ _⟩)
          refine stepsFX_cons ?_ ?_
          ·refine StepFX.one rfl rfl rfl rfl fun g_ p_ F_ w_ hR hout hD => ?_
           have g99 : F_ 99 = iv (pY (plN W 2) i2) := (hD.get 0 rfl rfl rfl).2 (by decide)
           exact (y_mul rfl rfl g99 (i64_i rfl (by omega)) ⟨rfl, Kept.refl _ _⟩)
          refine stepsFX_cons ?_ ?_
          ·refine StepFX.one rfl rfl rfl rfl fun g_ p_ F_ w_ hR hout hD => ?_
           exact (y_mov rfl ((hout 14 rfl (by decide)).trans s1805) ⟨rfl, Kept.refl _ _⟩)
          refine stepsFX_cons ?_ ?_
          ·refine StepFX.one rfl rfl rfl rfl fun g_ p_ F_ w_ hR hout hD => ?_
           exact (y_mov rfl ((hout 17 rfl (by decide)).trans s1811) ⟨rfl, Kept.refl _ _⟩)
          refine stepsFX_cons ?_ ?_
          ·refine StepFX.one rfl rfl rfl rfl fun g_ p_ F_ w_ hR hout hD => ?_
           have g101 : F_ 101 = v413 := (hD.get 0 rfl rfl rfl).2 (by decide)
           have g102 : F_ 102 = iv (((plOff W H 2 + i2) : Nat) : Int) := (hD.get 1 rfl rfl rfl).2 (by decide)
           exact (y_atRo (r := rCh) (plOff W H 2 + i2) rfl g101 g102 (by omega) (B1745.all hR Apart.none).roa (by rw [hlo0]; exact off_lt (by decide) (by omega)) ⟨rfl, Kept.refl _ _⟩)
          refine stepsFX_cons ?_ ?_
          ·refine StepFX.one rfl rfl rfl rfl fun g_ p_ F_ w_ hR hout hD => ?_
           have g103 : F_ 103 = bytAddr v413 ((plOff W H 2 + i2) * 21) := (hD.get 0 rfl rfl rfl).2 (by decide)
           exact (y_ldRoP (r := rCh) (n := 21) (plOff W H 2 + i2) 0 stcT_choice rfl g103 (B1745.all hR Apart.none).roa (by rw [hlo0]; exact off_lt (by decide) (by omega)) (by decide) rfl ⟨rfl, Kept.refl _ _⟩)
          refine stepsFX_cons ?_ ?_
          ·refine StepFX.call rfl rfl rfl rfl fun g_ p_ F_ w_ hR hout hD hP_ => ?_
           have g89 : F_ 89 = .agg #[iv ((decTo g h Q 2 (plN W 2) L (plOff W H 2) (frTo g h Q W H L 2) i2).W), iv ((decTo g h Q 2 (plN W 2) L (plOff W H 2) (frTo g h Q W H L 2) i2).H), a2, b2, c2] := (hD.get 0 rfl rfl rfl).2 (by decide)
           have g90 : F_ 90 = .agg #[iv (g.W), iv (g.H), g0, g1, g2] := (hD.get 1 rfl rfl rfl).2 (by decide)
           have g91 : F_ 91 = .agg #[iv (h.W), iv (h.H), h0, h1, h2] := (hD.get 2 rfl rfl rfl).2 (by decide)
           have g92 : F_ 92 = iv ((2 : Nat) : Int) := (hD.get 3 rfl rfl rfl).2 (by decide)
           have g96 : F_ 96 = iv (4 * pX (plN W 2) i2) := (hD.get 4 rfl rfl rfl).2 (by decide)
           have g100 : F_ 100 = iv (4 * pY (plN W 2) i2) := (hD.get 5 rfl rfl rfl).2 (by decide)
           have g104 : F_ 104 = .agg (chW (L.getD (plOff W H 2 + i2) ⟨0, 0, 0, 0, 0, fun _ => 0⟩)).toArray := (hD.get 6 rfl rfl rfl).2 (by decide)
           exact (y_cs rfl rfl rfl (fun _ _ => by kernel_rfl) (ev_func _) (vsC g89 (vsC g90 (vsC g91 (vsC g92 (vsC g96 (vsC g100 (vsC g104 vsN))))))) (bref_predict ((2 : Nat) : Int) (4 * pX (plN W 2) i2) (4 * pY (plN W 2) i2) (L.getD (plOff W H 2 + i2) ⟨0, 0, 0, 0, 0, fun _ => 0⟩) (decTo g h Q 2 (plN W 2) L (plOff W H 2) (frTo g h Q W H L 2) i2) a2 b2 c2 g g0 g1 g2 h h0 h1 h2 T1712 T1713 T1714 T_g0 T_g1 T_g2 T_h0 T_h1 T_h2 _  (B1747.all hR Apart.none).byt (B1748.all hR Apart.none).byt (B1749.all hR Apart.none).byt (B1734.all hR Apart.none) (B1735.all hR Apart.none) (B1736.all hR Apart.none) (B1737.all hR Apart.none) (B1738.all hR Apart.none) (B1739.all hR Apart.none) ) (fun e_ w_ h_ => ⟨_, h_.1, (), rfl, h_.2, trivial, fun b hb => hb.elim⟩))
          refine stepsFX_cons ?_ ?_
          ·refine StepFX.one rfl rfl rfl rfl fun g_ p_ F_ w_ hR hout hD => ?_
           have g105 : F_ 105 = .tuple #[blkV (cpB (decTo g h Q 2 (plN W 2) L (plOff W H 2) (frTo g h Q W H L 2) i2) g h ((2 : Nat) : Int) (4 * pX (plN W 2) i2) (4 * pY (plN W 2) i2) (L.getD (plOff W H 2 + i2) ⟨0, 0, 0, 0, 0, fun _ => 0⟩)), iv (cpE (decTo g h Q 2 (plN W 2) L (plOff W H 2) (frTo g h Q W H L 2) i2) g h ((2 : Nat) : Int) (4 * pX (plN W 2) i2) (4 * pY (plN W 2) i2) (L.getD (plOff W H 2 + i2) ⟨0, 0, 0, 0, 0, fun _ => 0⟩))] := (hD.get 0 rfl rfl rfl).2 (by decide)
           exact (y_mov rfl g105 ⟨rfl, Kept.refl _ _⟩)
          refine stepsFX_cons ?_ ?_
          ·refine StepFX.one rfl rfl rfl rfl fun g_ p_ F_ w_ hR hout hD => ?_
           have g88 : F_ 88 = .tuple #[blkV (cpB (decTo g h Q 2 (plN W 2) L (plOff W H 2) (frTo g h Q W H L 2) i2) g h ((2 : Nat) : Int) (4 * pX (plN W 2) i2) (4 * pY (plN W 2) i2) (L.getD (plOff W H 2 + i2) ⟨0, 0, 0, 0, 0, fun _ => 0⟩)), iv (cpE (decTo g h Q 2 (plN W 2) L (plOff W H 2) (frTo g h Q W H L 2) i2) g h ((2 : Nat) : Int) (4 * pX (plN W 2) i2) (4 * pY (plN W 2) i2) (L.getD (plOff W H 2 + i2) ⟨0, 0, 0, 0, 0, fun _ => 0⟩))] := (hD.get 0 rfl rfl rfl).2 (by decide)
           exact (y_ext rfl g88 rfl ⟨rfl, Kept.refl _ _⟩)
          refine stepsFX_cons ?_ ?_
          ·refine StepFX.one rfl rfl rfl rfl fun g_ p_ F_ w_ hR hout hD => ?_
           have g88 : F_ 88 = .tuple #[blkV (cpB (decTo g h Q 2 (plN W 2) L (plOff W H 2) (frTo g h Q W H L 2) i2) g h ((2 : Nat) : Int) (4 * pX (plN W 2) i2) (4 * pY (plN W 2) i2) (L.getD (plOff W H 2 + i2) ⟨0, 0, 0, 0, 0, fun _ => 0⟩)), iv (cpE (decTo g h Q 2 (plN W 2) L (plOff W H 2) (frTo g h Q W H L 2) i2) g h ((2 : Nat) : Int) (4 * pX (plN W 2) i2) (4 * pY (plN W 2) i2) (L.getD (plOff W H 2 + i2) ⟨0, 0, 0, 0, 0, fun _ => 0⟩))] := (hD.get 0 rfl rfl rfl).2 (by decide)
           exact (y_ext rfl g88 rfl ⟨rfl, Kept.refl _ _⟩)
          refine stepsFX_cons ?_ ?_
          ·refine StepFX.alloc rfl rfl rfl rfl fun F_ w_ hR => ?_
           exact y_alloc_blkP rfl blkT_arr.2.2 ⟨_, rfl, Nat.le_refl _, Blk.new _ _ _, (Kept.refl _ _).alloc _⟩
          refine stepsFX_cons ?_ ?_
          ·refine StepFX.store rfl rfl rfl rfl fun g_ p_ F_ w_ hR hout hD hO_ hZ_ hQ_ => ?_
           have g22 : F_ 22 = pt p_ 0 := (hD.get 0 rfl rfl rfl).1 rfl
           have g106 : F_ 106 = blkV (cpB (decTo g h Q 2 (plN W 2) L (plOff W H 2) (frTo g h Q W H L 2) i2) g h ((2 : Nat) : Int) (4 * pX (plN W 2) i2) (4 * pY (plN W 2) i2) (L.getD (plOff W H 2 + i2) ⟨0, 0, 0, 0, 0, fun _ => 0⟩)) := (hD.get 1 rfl rfl rfl).2 (by decide)
           exact y_storeBlk blkT_arr.2.1 rfl g22 g106 hZ_ fun w2_ b_ k_ => ⟨rfl, k_, b_⟩
          refine stepsFX_cons ?_ ?_
          ·refine StepFX.one rfl rfl rfl rfl fun g_ p_ F_ w_ hR hout hD => ?_
           have g107 : F_ 107 = iv (cpE (decTo g h Q 2 (plN W 2) L (plOff W H 2) (frTo g h Q W H L 2) i2) g h ((2 : Nat) : Int) (4 * pX (plN W 2) i2) (4 * pY (plN W 2) i2) (L.getD (plOff W H 2 + i2) ⟨0, 0, 0, 0, 0, fun _ => 0⟩)) := (hD.get 0 rfl rfl rfl).2 (by decide)
           exact (y_asg rfl g107 ⟨rfl, Kept.refl _ _⟩)
          exact stepsFX_nil
         intro gg1815 p1816 v1817 F1818 w1819 k1820 hp1821 hQ1822 hG1823 hY1824 hN1825 hA1826 hV1827 hF1828
         have B1829 := B1733.all k1820 Apart.none
         have B1830 := B1734.all k1820 Apart.none
         have B1831 := B1735.all k1820 Apart.none
         have B1832 := B1736.all k1820 Apart.none
         have B1833 := B1737.all k1820 Apart.none
         have B1834 := B1738.all k1820 Apart.none
         have B1835 := B1739.all k1820 Apart.none
         have B1836 := B1740.all k1820 id
         have B1837 := B1741.all k1820 id
         have B1838 := B1742.all k1820 id
         have B1839 := B1743.all k1820 id
         have B1840 := B1744.all k1820 id
         have B1841 := B1745.all k1820 Apart.none
         have B1842 := B1746.all k1820 id
         have B1843 := B1747.all k1820 Apart.none
         have B1844 := B1748.all k1820 Apart.none
         have B1845 := B1749.all k1820 Apart.none
         have K1846 := K1717.tr k1820
         replace hY1824 : Blk w1819 p1816 68 (cpB (decTo g h Q 2 (plN W 2) L (plOff W H 2) (frTo g h Q W H L 2) i2) g h ((2 : Nat) : Int) (4 * pX (plN W 2) i2) (4 * pY (plN W 2) i2) (L.getD (plOff W H 2 + i2) ⟨0, 0, 0, 0, 0, fun _ => 0⟩)) := hY1824
         obtain ⟨s1865, s1866, s1867, s1868, s1869, s1870, s1871, s1872, s1873, s1874, s1875, s1876, s1877⟩ := t13 hF1828 5 s1800 6 s1801 8 s1802 9 s1803 10 s1804 14 s1805 16 s1806 18 s1807 19 s1808 20 s1809 134 s1810 17 s1811 21 s1812
         have s1878 : F1818 22 = pt p1816 0 := (hF1828 22).trans (hA1826 20 rfl)
         clear hF1828 hV1827 hA1826 hN1825 hG1823
         refine then_normal (wq_seq ?_)
         refine wq_cas (γ := Unit) [(8, 7), (9, 7), (10, 7), (12, 7), (13, 7), (12, 11), (13, 11)] [some 109, some 110, some 111, some 112, some 113, some 114, some 115, some 116, some 108, some 117, some 118, some 24, none, some 25] ⟨fun w_ => True, fun _ => False, fun g_ w_ => True, fun g_ => fun _ => False, fun p_ w_ => Blk w_ p_ 68 (fun _ => 0), fun g_ p_ w_ => Blk w_ p_ 68 (buB (cpB (decTo g h Q 2 (plN W 2) L (plOff W H 2) (frTo g h Q W H L 2) i2) g h ((2 : Nat) : Int) (4 * pX (plN W 2) i2) (4 * pY (plN W 2) i2) (L.getD (plOff W H 2 + i2) ⟨0, 0, 0, 0, 0, fun _ => 0⟩)) (L.getD (plOff W H 2 + i2) ⟨0, 0, 0, 0, 0, fun _ => 0⟩).b Q)⟩ (fun _ => False) (fun p_ => w1819.heap.size ≤ p_) [fun g_ => blkV (cpB (decTo g h Q 2 (plN W 2) L (plOff W H 2) (frTo g h Q W H L 2) i2) g h ((2 : Nat) : Int) (4 * pX (plN W 2) i2) (4 * pY (plN W 2) i2) (L.getD (plOff W H 2 + i2) ⟨0, 0, 0, 0, 0, fun _ => 0⟩)), fun g_ => v413, fun g_ => iv (((plOff W H 2 + i2) : Nat) : Int), fun g_ => bytAddr v413 ((plOff W H 2 + i2) * 21), fun g_ => .agg (chW (L.getD (plOff W H 2 + i2) ⟨0, 0, 0, 0, 0, fun _ => 0⟩)).toArray, fun g_ => pt p22 1, fun g_ => iv Q, fun g_ => .tuple #[blkV (buB (cpB (decTo g h Q 2 (plN W 2) L (plOff W H 2) (frTo g h Q W H L 2) i2) g h ((2 : Nat) : Int) (4 * pX (plN W 2) i2) (4 * pY (plN W 2) i2) (L.getD (plOff W H 2 + i2) ⟨0, 0, 0, 0, 0, fun _ => 0⟩)) (L.getD (plOff W H 2 + i2) ⟨0, 0, 0, 0, 0, fun _ => 0⟩).b Q), iv (ern Q)], fun g_ => .tuple #[blkV (buB (cpB (decTo g h Q 2 (plN W 2) L (plOff W H 2) (frTo g h Q W H L 2) i2) g h ((2 : Nat) : Int) (4 * pX (plN W 2) i2) (4 * pY (plN W 2) i2) (L.getD (plOff W H 2 + i2) ⟨0, 0, 0, 0, 0, fun _ => 0⟩)) (L.getD (plOff W H 2 + i2) ⟨0, 0, 0, 0, 0, fun _ => 0⟩).b Q), iv (ern Q)], fun g_ => blkV (buB (cpB (decTo g h Q 2 (plN W 2) L (plOff W H 2) (frTo g h Q W H L 2) i2) g h ((2 : Nat) : Int) (4 * pX (plN W 2) i2) (4 * pY (plN W 2) i2) (L.getD (plOff W H 2 + i2) ⟨0, 0, 0, 0, 0, fun _ => 0⟩)) (L.getD (plOff W H 2 + i2) ⟨0, 0, 0, 0, 0, fun _ => 0⟩).b Q), fun g_ => iv (ern Q), fun _ => undef, fun _ => undef, fun g_ => iv (ern Q)] 7 12 (some 11) () 0 (by kernel_rfl) (by kernel_rfl) (by kernel_rfl) (by kernel_rfl) ⟨.inr (.inr fun _ _ => rfl), ⟨.inr (.inr fun _ _ => rfl), ⟨.inr (.inr fun _ _ => rfl), ⟨.inr (.inr fun _ _ => rfl), ⟨.inr (.inr fun _ _ => rfl), ⟨.inr (.inr fun _ _ => rfl), ⟨.inr (.inr fun _ _ => rfl), ⟨.inr (.inl rfl), ⟨.inl rfl, ⟨.inl rfl, ⟨.inl rfl, ⟨.inr (.inr fun _ _ => rfl), ⟨.inl rfl, ⟨.inl rfl, trivial⟩⟩⟩⟩⟩⟩⟩⟩⟩⟩⟩⟩⟩⟩ ⟨trivial, fun _ _ _ _ _ _ => trivial, fun _ _ _ z => z.elim, fun _ _ _ _ _ _ _ => trivial, fun _ _ _ _ z => z.elim, fun _ _ _ _ h k z => h.all k z, fun _ _ h => h.lt, fun _ _ _ _ _ h k z => h.all k z, fun _ z => z, fun _ h => .inr h, fun _ _ z => z⟩ (fun _ _ _ h => h) (fun e => by cases e) ?_ ?_
         ·refine stepsFX_cons ?_ ?_
          ·refine StepFX.one rfl rfl rfl rfl fun g_ p_ F_ w_ hR hout hD => ?_
           exact (y_load_blk blkT_arr rfl ((hout 22 rfl (by decide)).trans s1878) (hY1824.all hR id) ⟨rfl, Kept.refl _ _⟩)
          refine stepsFX_cons ?_ ?_
          ·refine StepFX.one rfl rfl rfl rfl fun g_ p_ F_ w_ hR hout hD => ?_
           exact (y_mov rfl ((hout 14 rfl (by decide)).trans s1870) ⟨rfl, Kept.refl _ _⟩)
          refine stepsFX_cons ?_ ?_
          ·refine StepFX.one rfl rfl rfl rfl fun g_ p_ F_ w_ hR hout hD => ?_
           exact (y_mov rfl ((hout 17 rfl (by decide)).trans s1876) ⟨rfl, Kept.refl _ _⟩)
          refine stepsFX_cons ?_ ?_
          ·refine StepFX.one rfl rfl rfl rfl fun g_ p_ F_ w_ hR hout hD => ?_
           have g110 : F_ 110 = v413 := (hD.get 0 rfl rfl rfl).2 (by decide)
           have g111 : F_ 111 = iv (((plOff W H 2 + i2) : Nat) : Int) := (hD.get 1 rfl rfl rfl).2 (by decide)
           exact (y_atRo (r := rCh) (plOff W H 2 + i2) rfl g110 g111 (by omega) (B1841.all hR Apart.none).roa (by rw [hlo0]; exact off_lt (by decide) (by omega)) ⟨rfl, Kept.refl _ _⟩)
          refine stepsFX_cons ?_ ?_
          ·refine StepFX.one rfl rfl rfl rfl fun g_ p_ F_ w_ hR hout hD => ?_
           have g112 : F_ 112 = bytAddr v413 ((plOff W H 2 + i2) * 21) := (hD.get 0 rfl rfl rfl).2 (by decide)
           exact (y_ldRoP (r := rCh) (n := 21) (plOff W H 2 + i2) 0 stcT_choice rfl g112 (B1841.all hR Apart.none).roa (by rw [hlo0]; exact off_lt (by decide) (by omega)) (by decide) rfl ⟨rfl, Kept.refl _ _⟩)
          refine stepsFX_cons ?_ ?_
          ·refine StepFX.one rfl rfl rfl rfl fun g_ p_ F_ w_ hR hout hD => ?_
           exact (y_fieldR (n := 1) rfl ((hout 6 rfl (by decide)).trans s1866) Tryz.underlying25 rfl (by kernel_rfl) (by decide) rfl ⟨rfl, Kept.refl _ _⟩)
          refine stepsFX_cons ?_ ?_
          ·refine StepFX.one rfl rfl rfl rfl fun g_ p_ F_ w_ hR hout hD => ?_
           have g114 : F_ 114 = pt p22 1 := (hD.get 0 rfl rfl rfl).2 (by decide)
           exact (y_ld_stc rfl g114 Tryz.underlying3 (B1837.all hR id) rfl rfl ⟨rfl, Kept.refl _ _⟩)
          refine stepsFX_cons ?_ ?_
          ·refine StepFX.call rfl rfl rfl rfl fun g_ p_ F_ w_ hR hout hD hP_ => ?_
           have g109 : F_ 109 = blkV (cpB (decTo g h Q 2 (plN W 2) L (plOff W H 2) (frTo g h Q W H L 2) i2) g h ((2 : Nat) : Int) (4 * pX (plN W 2) i2) (4 * pY (plN W 2) i2) (L.getD (plOff W H 2 + i2) ⟨0, 0, 0, 0, 0, fun _ => 0⟩)) := (hD.get 0 rfl rfl rfl).2 (by decide)
           have g113 : F_ 113 = .agg (chW (L.getD (plOff W H 2 + i2) ⟨0, 0, 0, 0, 0, fun _ => 0⟩)).toArray := (hD.get 1 rfl rfl rfl).2 (by decide)
           have g115 : F_ 115 = iv Q := (hD.get 2 rfl rfl rfl).2 (by decide)
           exact (y_cs rfl rfl rfl (fun _ _ => by kernel_rfl) (ev_func _) (vsC g109 (vsC g113 (vsC g115 vsN))) (bref_build (cpB (decTo g h Q 2 (plN W 2) L (plOff W H 2) (frTo g h Q W H L 2) i2) g h ((2 : Nat) : Int) (4 * pX (plN W 2) i2) (4 * pY (plN W 2) i2) (L.getD (plOff W H 2 + i2) ⟨0, 0, 0, 0, 0, fun _ => 0⟩)) (L.getD (plOff W H 2 + i2) ⟨0, 0, 0, 0, 0, fun _ => 0⟩) Q  _   ) (fun e_ w_ h_ => ⟨_, h_.1, (), rfl, h_.2, trivial, fun b hb => hb.elim⟩))
          refine stepsFX_cons ?_ ?_
          ·refine StepFX.one rfl rfl rfl rfl fun g_ p_ F_ w_ hR hout hD => ?_
           have g116 : F_ 116 = .tuple #[blkV (buB (cpB (decTo g h Q 2 (plN W 2) L (plOff W H 2) (frTo g h Q W H L 2) i2) g h ((2 : Nat) : Int) (4 * pX (plN W 2) i2) (4 * pY (plN W 2) i2) (L.getD (plOff W H 2 + i2) ⟨0, 0, 0, 0, 0, fun _ => 0⟩)) (L.getD (plOff W H 2 + i2) ⟨0, 0, 0, 0, 0, fun _ => 0⟩).b Q), iv (ern Q)] := (hD.get 0 rfl rfl rfl).2 (by decide)
           exact (y_mov rfl g116 ⟨rfl, Kept.refl _ _⟩)
          refine stepsFX_cons ?_ ?_
          ·refine StepFX.one rfl rfl rfl rfl fun g_ p_ F_ w_ hR hout hD => ?_
           have g108 : F_ 108 = .tuple #[blkV (buB (cpB (decTo g h Q 2 (plN W 2) L (plOff W H 2) (frTo g h Q W H L 2) i2) g h ((2 : Nat) : Int) (4 * pX (plN W 2) i2) (4 * pY (plN W 2) i2) (L.getD (plOff W H 2 + i2) ⟨0, 0, 0, 0, 0, fun _ => 0⟩)) (L.getD (plOff W H 2 + i2) ⟨0, 0, 0, 0, 0, fun _ => 0⟩).b Q), iv (ern Q)] := (hD.get 0 rfl rfl rfl).2 (by decide)
           exact (y_ext rfl g108 rfl ⟨rfl, Kept.refl _ _⟩)
          refine stepsFX_cons ?_ ?_
          ·refine StepFX.one rfl rfl rfl rfl fun g_ p_ F_ w_ hR hout hD => ?_
           have g108 : F_ 108 = .tuple #[blkV (buB (cpB (decTo g h Q 2 (plN W 2) L (plOff W H 2) (frTo g h Q W H L 2) i2) g h ((2 : Nat) : Int) (4 * pX (plN W 2) i2) (4 * pY (plN W 2) i2) (L.getD (plOff W H 2 + i2) ⟨0, 0, 0, 0, 0, fun _ => 0⟩)) (L.getD (plOff W H 2 + i2) ⟨0, 0, 0, 0, 0, fun _ => 0⟩).b Q), iv (ern Q)] := (hD.get 0 rfl rfl rfl).2 (by decide)
           exact (y_ext rfl g108 rfl ⟨rfl, Kept.refl _ _⟩)
          refine stepsFX_cons ?_ ?_
          ·refine StepFX.alloc rfl rfl rfl rfl fun F_ w_ hR => ?_
           exact y_alloc_blkP rfl blkT_arr.2.2 ⟨_, rfl, Nat.le_refl _, Blk.new _ _ _, (Kept.refl _ _).alloc _⟩
          refine stepsFX_cons ?_ ?_
          ·refine StepFX.store rfl rfl rfl rfl fun g_ p_ F_ w_ hR hout hD hO_ hZ_ hQ_ => ?_
           have g24 : F_ 24 = pt p_ 0 := (hD.get 0 rfl rfl rfl).1 rfl
           have g117 : F_ 117 = blkV (buB (cpB (decTo g h Q 2 (plN W 2) L (plOff W H 2) (frTo g h Q W H L 2) i2) g h ((2 : Nat) : Int) (4 * pX (plN W 2) i2) (4 * pY (plN W 2) i2) (L.getD (plOff W H 2 + i2) ⟨0, 0, 0, 0, 0, fun _ => 0⟩)) (L.getD (plOff W H 2 + i2) ⟨0, 0, 0, 0, 0, fun _ => 0⟩).b Q) := (hD.get 1 rfl rfl rfl).2 (by decide)
           exact y_storeBlk blkT_arr.2.1 rfl g24 g117 hZ_ fun w2_ b_ k_ => ⟨rfl, k_, b_⟩
          refine stepsFX_cons ?_ ?_
          ·refine StepFX.one rfl rfl rfl rfl fun g_ p_ F_ w_ hR hout hD => ?_
           have g118 : F_ 118 = iv (ern Q) := (hD.get 0 rfl rfl rfl).2 (by decide)
           exact (y_asg rfl g118 ⟨rfl, Kept.refl _ _⟩)
          exact stepsFX_nil
         intro gg1879 p1880 v1881 F1882 w1883 k1884 hp1885 hQ1886 hG1887 hY1888 hN1889 hA1890 hV1891 hF1892
         have B1893 := B1829.all k1884 Apart.none
         have B1894 := B1830.all k1884 Apart.none
         have B1895 := B1831.all k1884 Apart.none
         have B1896 := B1832.all k1884 Apart.none
         have B1897 := B1833.all k1884 Apart.none
         have B1898 := B1834.all k1884 Apart.none
         have B1899 := B1835.all k1884 Apart.none
         have B1900 := B1836.all k1884 id
         have B1901 := B1837.all k1884 id
         have B1902 := B1838.all k1884 id
         have B1903 := B1839.all k1884 id
         have B1904 := B1840.all k1884 id
         have B1905 := B1841.all k1884 Apart.none
         have B1906 := B1842.all k1884 id
         have B1907 := B1843.all k1884 Apart.none
         have B1908 := B1844.all k1884 Apart.none
         have B1909 := B1845.all k1884 Apart.none
         have K1911 := K1846.tr k1884
         replace hY1888 : Blk w1883 p1880 68 (buB (cpB (decTo g h Q 2 (plN W 2) L (plOff W H 2) (frTo g h Q W H L 2) i2) g h ((2 : Nat) : Int) (4 * pX (plN W 2) i2) (4 * pY (plN W 2) i2) (L.getD (plOff W H 2 + i2) ⟨0, 0, 0, 0, 0, fun _ => 0⟩)) (L.getD (plOff W H 2 + i2) ⟨0, 0, 0, 0, 0, fun _ => 0⟩).b Q) := hY1888
         obtain ⟨s1931, s1932, s1933, s1934, s1935, s1936, s1937, s1938, s1939, s1940, s1941, s1942, s1943⟩ := t13 hF1892 5 s1865 6 s1866 8 s1867 9 s1868 10 s1869 14 s1870 16 s1871 18 s1872 19 s1873 20 s1874 134 s1875 17 s1876 21 s1877
         have s1944 : F1882 24 = pt p1880 0 := (hF1892 24).trans (hA1890 11 rfl)
         clear hF1892 hV1891 hA1890 hN1889 hG1887
         refine then_normal (wq_seq ?_)
         refine wq_tail 12 [some 119, some 120, some 121, some 122, some 123, some 124, some 125, some 126, some 127, some 128, some 129, some 130] [Pd.eq (.agg #[iv ((decTo g h Q 2 (plN W 2) L (plOff W H 2) (frTo g h Q W H L 2) i2).W), iv ((decTo g h Q 2 (plN W 2) L (plOff W H 2) (frTo g h Q W H L 2) i2).H), a2, b2, c2]), Pd.eq (iv ((2 : Nat) : Int)), Pd.eq (iv ((i2 : Nat) : Int)), Pd.eq (iv ((plN W 2 : Nat) : Int)), Pd.eq (iv (pX (plN W 2) i2)), Pd.eq (iv (4 * pX (plN W 2) i2)), Pd.eq (iv ((i2 : Nat) : Int)), Pd.eq (iv ((plN W 2 : Nat) : Int)), Pd.eq (iv (pY (plN W 2) i2)), Pd.eq (iv (4 * pY (plN W 2) i2)), Pd.eq (blkV (buB (cpB (decTo g h Q 2 (plN W 2) L (plOff W H 2) (frTo g h Q W H L 2) i2) g h ((2 : Nat) : Int) (4 * pX (plN W 2) i2) (4 * pY (plN W 2) i2) (L.getD (plOff W H 2 + i2) ⟨0, 0, 0, 0, 0, fun _ => 0⟩)) (L.getD (plOff W H 2 + i2) ⟨0, 0, 0, 0, 0, fun _ => 0⟩).b Q)), Pd.frmN w1883.heap.size (putFr (decTo g h Q 2 (plN W 2) L (plOff W H 2) (frTo g h Q W H L 2) i2) ((2 : Nat) : Int) (4 * pX (plN W 2) i2) (4 * pY (plN W 2) i2) (buB (cpB (decTo g h Q 2 (plN W 2) L (plOff W H 2) (frTo g h Q W H L 2) i2) g h ((2 : Nat) : Int) (4 * pX (plN W 2) i2) (4 * pY (plN W 2) i2) (L.getD (plOff W H 2 + i2) ⟨0, 0, 0, 0, 0, fun _ => 0⟩)) (L.getD (plOff W H 2 + i2) ⟨0, 0, 0, 0, 0, fun _ => 0⟩).b Q))] (by kernel_rfl) (by kernel_rfl) (by kernel_rfl) ?_ ?_
         ·refine stepsF_cons ?_ ?_
          ·refine StepF.one rfl fun F_ w_ hR hout hD => ?_
           exact (y_load_stc stcT_frame rfl ((hout 16 rfl (by decide)).trans s1937) (B1906.all hR id) ⟨rfl, Kept.refl _ _⟩)
          refine stepsF_cons ?_ ?_
          ·refine StepF.one rfl fun F_ w_ hR hout hD => ?_
           exact (y_mov rfl ((hout 18 rfl (by decide)).trans s1938) ⟨rfl, Kept.refl _ _⟩)
          refine stepsF_cons ?_ ?_
          ·refine StepF.one rfl fun F_ w_ hR hout hD => ?_
           exact (y_mov rfl ((hout 21 rfl (by decide)).trans s1943) ⟨rfl, Kept.refl _ _⟩)
          refine stepsF_cons ?_ ?_
          ·refine StepF.one rfl fun F_ w_ hR hout hD => ?_
           exact (y_mov rfl ((hout 19 rfl (by decide)).trans s1939) ⟨rfl, Kept.refl _ _⟩)
          refine stepsF_cons ?_ ?_
          ·refine StepF.one rfl fun F_ w_ hR hout hD => ?_
           have g121 : F_ 121 = iv ((i2 : Nat) : Int) := (hD.get 0 rfl rfl rfl)
           have g122 : F_ 122 = iv ((plN W 2 : Nat) : Int) := (hD.get 1 rfl rfl rfl)
           exact (y_rem rfl g121 g122 (by first | decide | omega) (rem_nat i2 (plN W 2)) ⟨rfl, Kept.refl _ _⟩)
          refine stepsF_cons ?_ ?_
          ·refine StepF.one rfl fun F_ w_ hR hout hD => ?_
           have g123 : F_ 123 = iv (pX (plN W 2) i2) := (hD.get 0 rfl rfl rfl)
           exact (y_mul rfl rfl g123 (i64_i rfl (by omega)) ⟨rfl, Kept.refl _ _⟩)
          refine stepsF_cons ?_ ?_
          ·refine StepF.one rfl fun F_ w_ hR hout hD => ?_
           exact (y_mov rfl ((hout 21 rfl (by decide)).trans s1943) ⟨rfl, Kept.refl _ _⟩)
          refine stepsF_cons ?_ ?_
          ·refine StepF.one rfl fun F_ w_ hR hout hD => ?_
           exact (y_mov rfl ((hout 19 rfl (by decide)).trans s1939) ⟨rfl, Kept.refl _ _⟩)
          refine stepsF_cons ?_ ?_
          ·refine StepF.one rfl fun F_ w_ hR hout hD => ?_
           have g125 : F_ 125 = iv ((i2 : Nat) : Int) := (hD.get 0 rfl rfl rfl)
           have g126 : F_ 126 = iv ((plN W 2 : Nat) : Int) := (hD.get 1 rfl rfl rfl)
           exact (y_quo rfl g125 g126 (by first | decide | omega) (i64_n (quo_nat i2 (plN W 2)) (by omega)) ⟨rfl, Kept.refl _ _⟩)
          refine stepsF_cons ?_ ?_
          ·refine StepF.one rfl fun F_ w_ hR hout hD => ?_
           have g127 : F_ 127 = iv (pY (plN W 2) i2) := (hD.get 0 rfl rfl rfl)
           exact (y_mul rfl rfl g127 (i64_i rfl (by omega)) ⟨rfl, Kept.refl _ _⟩)
          refine stepsF_cons ?_ ?_
          ·refine StepF.one rfl fun F_ w_ hR hout hD => ?_
           exact (y_load_blk blkT_arr rfl ((hout 24 rfl (by decide)).trans s1944) (hY1888.all hR id) ⟨rfl, Kept.refl _ _⟩)
          refine stepsF_cons ?_ ?_
          ·refine StepF.one rfl fun F_ w_ hR hout hD => ?_
           have g119 : F_ 119 = .agg #[iv ((decTo g h Q 2 (plN W 2) L (plOff W H 2) (frTo g h Q W H L 2) i2).W), iv ((decTo g h Q 2 (plN W 2) L (plOff W H 2) (frTo g h Q W H L 2) i2).H), a2, b2, c2] := (hD.get 0 rfl rfl rfl)
           have g120 : F_ 120 = iv ((2 : Nat) : Int) := (hD.get 1 rfl rfl rfl)
           have g124 : F_ 124 = iv (4 * pX (plN W 2) i2) := (hD.get 2 rfl rfl rfl)
           have g128 : F_ 128 = iv (4 * pY (plN W 2) i2) := (hD.get 3 rfl rfl rfl)
           have g129 : F_ 129 = blkV (buB (cpB (decTo g h Q 2 (plN W 2) L (plOff W H 2) (frTo g h Q W H L 2) i2) g h ((2 : Nat) : Int) (4 * pX (plN W 2) i2) (4 * pY (plN W 2) i2) (L.getD (plOff W H 2 + i2) ⟨0, 0, 0, 0, 0, fun _ => 0⟩)) (L.getD (plOff W H 2 + i2) ⟨0, 0, 0, 0, 0, fun _ => 0⟩).b Q) := (hD.get 4 rfl rfl rfl)
           exact (y_cs rfl rfl rfl (fun _ _ => by kernel_rfl) (ev_func _) (vsC g119 (vsC g120 (vsC g124 (vsC g128 (vsC g129 vsN))))) (fref_put ((2 : Nat) : Int) (4 * pX (plN W 2) i2) (4 * pY (plN W 2) i2) (buB (cpB (decTo g h Q 2 (plN W 2) L (plOff W H 2) (frTo g h Q W H L 2) i2) g h ((2 : Nat) : Int) (4 * pX (plN W 2) i2) (4 * pY (plN W 2) i2) (L.getD (plOff W H 2 + i2) ⟨0, 0, 0, 0, 0, fun _ => 0⟩)) (L.getD (plOff W H 2 + i2) ⟨0, 0, 0, 0, 0, fun _ => 0⟩).b Q) (decTo g h Q 2 (plN W 2) L (plOff W H 2) (frTo g h Q W H L 2) i2) a2 b2 c2 T1712 T1713 T1714 _  (B1907.all hR Apart.none).byt (B1908.all hR Apart.none).byt (B1909.all hR Apart.none).byt ) (fun e_ w_ h_ => by obtain ⟨a_, Ta_, b_, Tb_, c_, Tc_, he_, k_, ha_, hb_, hc_, ab_, ac_, bc_⟩ := h_; exact ⟨_, he_, ⟨a_, b_, c_, Ta_, Tb_, Tc_, rfl, ha_.1, hb_.1, hc_.1, lie_at hR ha_.2, lie_at hR hb_.2, lie_at hR hc_.2, ab_, ac_, bc_⟩, k_⟩))
          exact stepsF_nil
         intro v1948 F1949 w1950 k1951 G1952 hF1953
         have B1955 := B1893.all k1951 Apart.none
         have B1956 := B1894.all k1951 Apart.none
         have B1957 := B1895.all k1951 Apart.none
         have B1958 := B1896.all k1951 Apart.none
         have B1959 := B1897.all k1951 Apart.none
         have B1960 := B1898.all k1951 Apart.none
         have B1961 := B1899.all k1951 Apart.none
         have B1962 := B1900.all k1951 id
         have B1963 := B1901.all k1951 id
         have B1964 := B1902.all k1951 id
         have B1965 := B1903.all k1951 id
         have B1966 := B1904.all k1951 id
         have B1967 := B1905.all k1951 Apart.none
         have B1968 := B1906.all k1951 id
         have K1974 := K1911.tr k1951
         obtain ⟨s1975, s1976, s1977, s1978, s1979, s1980, s1981, s1982, s1983, s1984, s1985, s1986, s1987⟩ := t13 hF1953 5 s1931 6 s1932 8 s1933 9 s1934 10 s1935 14 s1936 16 s1937 18 s1938 19 s1939 20 s1940 134 s1941 17 s1942 21 s1943
         obtain ⟨v1990, v1991, v1992, T1993, T1994, T1995, e1989, B1996, B1997, B1998, n1999, n2000, n2001, ap2002, ap2003, ap2004⟩ : FrmN w1950 w1883.heap.size (v1948 11) (putFr (decTo g h Q 2 (plN W 2) L (plOff W H 2) (frTo g h Q W H L 2) i2) ((2 : Nat) : Int) (4 * pX (plN W 2) i2) (4 * pY (plN W 2) i2) (buB (cpB (decTo g h Q 2 (plN W 2) L (plOff W H 2) (frTo g h Q W H L 2) i2) g h ((2 : Nat) : Int) (4 * pX (plN W 2) i2) (4 * pY (plN W 2) i2) (L.getD (plOff W H 2 + i2) ⟨0, 0, 0, 0, 0, fun _ => 0⟩)) (L.getD (plOff W H 2 + i2) ⟨0, 0, 0, 0, 0, fun _ => 0⟩).b Q)) := G1952 11 (by decide)
         have gr2005 : Grew w0 noB T1993 := Grew.new K1911 (lie_grew n1999)
         have ap2006 : Apart T1993 T_b := Apart.new (lie_grew n1999) B1893.live
         have ap2007 : Apart T1993 T_g0 := Apart.new (lie_grew n1999) B1894.live
         have ap2008 : Apart T1993 T_g1 := Apart.new (lie_grew n1999) B1895.live
         have ap2009 : Apart T1993 T_g2 := Apart.new (lie_grew n1999) B1896.live
         have ap2010 : Apart T1993 T_h0 := Apart.new (lie_grew n1999) B1897.live
         have ap2011 : Apart T1993 T_h1 := Apart.new (lie_grew n1999) B1898.live
         have ap2012 : Apart T1993 T_h2 := Apart.new (lie_grew n1999) B1899.live
         have ap2013 : Apart T1993 (onB p1) := Apart.new (lie_grew n1999) (onB_live B1900.lt)
         have ap2014 : Apart T1993 (onB p22) := Apart.new (lie_grew n1999) (onB_live B1901.lt)
         have ap2015 : Apart T1993 (onB p45) := Apart.new (lie_grew n1999) (onB_live B1902.lt)
         have ap2016 : Apart T1993 (onB p70) := Apart.new (lie_grew n1999) (onB_live B1903.lt)
         have ap2017 : Apart T1993 (onB p97) := Apart.new (lie_grew n1999) (onB_live B1904.lt)
         have ap2018 : Apart T1993 T416 := Apart.new (lie_grew n1999) B1905.live
         have ap2019 : Apart T1993 (onB p562) := Apart.new (lie_grew n1999) (onB_live B1906.lt)
         have gr2025 : Grew w0 noB T1994 := Grew.new K1911 (lie_grew n2000)
         have ap2026 : Apart T1994 T_b := Apart.new (lie_grew n2000) B1893.live
         have ap2027 : Apart T1994 T_g0 := Apart.new (lie_grew n2000) B1894.live
         have ap2028 : Apart T1994 T_g1 := Apart.new (lie_grew n2000) B1895.live
         have ap2029 : Apart T1994 T_g2 := Apart.new (lie_grew n2000) B1896.live
         have ap2030 : Apart T1994 T_h0 := Apart.new (lie_grew n2000) B1897.live
         have ap2031 : Apart T1994 T_h1 := Apart.new (lie_grew n2000) B1898.live
         have ap2032 : Apart T1994 T_h2 := Apart.new (lie_grew n2000) B1899.live
         have ap2033 : Apart T1994 (onB p1) := Apart.new (lie_grew n2000) (onB_live B1900.lt)
         have ap2034 : Apart T1994 (onB p22) := Apart.new (lie_grew n2000) (onB_live B1901.lt)
         have ap2035 : Apart T1994 (onB p45) := Apart.new (lie_grew n2000) (onB_live B1902.lt)
         have ap2036 : Apart T1994 (onB p70) := Apart.new (lie_grew n2000) (onB_live B1903.lt)
         have ap2037 : Apart T1994 (onB p97) := Apart.new (lie_grew n2000) (onB_live B1904.lt)
         have ap2038 : Apart T1994 T416 := Apart.new (lie_grew n2000) B1905.live
         have ap2039 : Apart T1994 (onB p562) := Apart.new (lie_grew n2000) (onB_live B1906.lt)
         have gr2045 : Grew w0 noB T1995 := Grew.new K1911 (lie_grew n2001)
         have ap2046 : Apart T1995 T_b := Apart.new (lie_grew n2001) B1893.live
         have ap2047 : Apart T1995 T_g0 := Apart.new (lie_grew n2001) B1894.live
         have ap2048 : Apart T1995 T_g1 := Apart.new (lie_grew n2001) B1895.live
         have ap2049 : Apart T1995 T_g2 := Apart.new (lie_grew n2001) B1896.live
         have ap2050 : Apart T1995 T_h0 := Apart.new (lie_grew n2001) B1897.live
         have ap2051 : Apart T1995 T_h1 := Apart.new (lie_grew n2001) B1898.live
         have ap2052 : Apart T1995 T_h2 := Apart.new (lie_grew n2001) B1899.live
         have ap2053 : Apart T1995 (onB p1) := Apart.new (lie_grew n2001) (onB_live B1900.lt)
         have ap2054 : Apart T1995 (onB p22) := Apart.new (lie_grew n2001) (onB_live B1901.lt)
         have ap2055 : Apart T1995 (onB p45) := Apart.new (lie_grew n2001) (onB_live B1902.lt)
         have ap2056 : Apart T1995 (onB p70) := Apart.new (lie_grew n2001) (onB_live B1903.lt)
         have ap2057 : Apart T1995 (onB p97) := Apart.new (lie_grew n2001) (onB_live B1904.lt)
         have ap2058 : Apart T1995 T416 := Apart.new (lie_grew n2001) B1905.live
         have ap2059 : Apart T1995 (onB p562) := Apart.new (lie_grew n2001) (onB_live B1906.lt)
         have s1988 : F1949 130 = .agg #[iv ((putFr (decTo g h Q 2 (plN W 2) L (plOff W H 2) (frTo g h Q W H L 2) i2) ((2 : Nat) : Int) (4 * pX (plN W 2) i2) (4 * pY (plN W 2) i2) (buB (cpB (decTo g h Q 2 (plN W 2) L (plOff W H 2) (frTo g h Q W H L 2) i2) g h ((2 : Nat) : Int) (4 * pX (plN W 2) i2) (4 * pY (plN W 2) i2) (L.getD (plOff W H 2 + i2) ⟨0, 0, 0, 0, 0, fun _ => 0⟩)) (L.getD (plOff W H 2 + i2) ⟨0, 0, 0, 0, 0, fun _ => 0⟩).b Q)).W), iv ((putFr (decTo g h Q 2 (plN W 2) L (plOff W H 2) (frTo g h Q W H L 2) i2) ((2 : Nat) : Int) (4 * pX (plN W 2) i2) (4 * pY (plN W 2) i2) (buB (cpB (decTo g h Q 2 (plN W 2) L (plOff W H 2) (frTo g h Q W H L 2) i2) g h ((2 : Nat) : Int) (4 * pX (plN W 2) i2) (4 * pY (plN W 2) i2) (L.getD (plOff W H 2 + i2) ⟨0, 0, 0, 0, 0, fun _ => 0⟩)) (L.getD (plOff W H 2 + i2) ⟨0, 0, 0, 0, 0, fun _ => 0⟩).b Q)).H), v1990, v1991, v1992] := (hF1953 130).trans e1989
         clear G1952 hF1953
         refine wl_store_stc (us := [iv ((putFr (decTo g h Q 2 (plN W 2) L (plOff W H 2) (frTo g h Q W H L 2) i2) ((2 : Nat) : Int) (4 * pX (plN W 2) i2) (4 * pY (plN W 2) i2) (buB (cpB (decTo g h Q 2 (plN W 2) L (plOff W H 2) (frTo g h Q W H L 2) i2) g h ((2 : Nat) : Int) (4 * pX (plN W 2) i2) (4 * pY (plN W 2) i2) (L.getD (plOff W H 2 + i2) ⟨0, 0, 0, 0, 0, fun _ => 0⟩)) (L.getD (plOff W H 2 + i2) ⟨0, 0, 0, 0, 0, fun _ => 0⟩).b Q)).W), iv ((putFr (decTo g h Q 2 (plN W 2) L (plOff W H 2) (frTo g h Q W H L 2) i2) ((2 : Nat) : Int) (4 * pX (plN W 2) i2) (4 * pY (plN W 2) i2) (buB (cpB (decTo g h Q 2 (plN W 2) L (plOff W H 2) (frTo g h Q W H L 2) i2) g h ((2 : Nat) : Int) (4 * pX (plN W 2) i2) (4 * pY (plN W 2) i2) (L.getD (plOff W H 2 + i2) ⟨0, 0, 0, 0, 0, fun _ => 0⟩)) (L.getD (plOff W H 2 + i2) ⟨0, 0, 0, 0, 0, fun _ => 0⟩).b Q)).H), v1990, v1991, v1992]) stcT_frame rfl rfl rfl s1981 s1988 B1968 rfl (oneI rfl (oneI rfl (oneI B1996.one (oneI B1997.one (oneI B1998.one oneN))))) fun w2065 B2066 k2067 => ?_
         have B2068 := B1955.all k2067 ap568.symm
         have B2069 := B1956.all k2067 ap569.symm
         have B2070 := B1957.all k2067 ap570.symm
         have B2071 := B1958.all k2067 ap571.symm
         have B2072 := B1959.all k2067 ap572.symm
         have B2073 := B1960.all k2067 ap573.symm
         have B2074 := B1961.all k2067 ap574.symm
         have B2075 := B1962.all k2067 (ap575.symm p1 rfl)
         have B2076 := B1963.all k2067 (ap576.symm p22 rfl)
         have B2077 := B1964.all k2067 (ap577.symm p45 rfl)
         have B2078 := B1965.all k2067 (ap578.symm p70 rfl)
         have B2079 := B1966.all k2067 (ap579.symm p97 rfl)
         have B2080 := B1967.all k2067 ap580.symm
         have B2086 := B1996.all k2067 ap2019
         have B2087 := B1997.all k2067 ap2039
         have B2088 := B1998.all k2067 ap2059
         have K2089 := K1974.trans k2067 (Grew.ok (S := fun _ => False) gr567 noB_le)
         refine wl_nil fun F2090 hF2091 => ?_
         obtain ⟨s2092, s2093, s2094, s2095, s2096, s2097, s2098, s2099, s2100, s2101, s2102, s2103, s2104⟩ := t13 hF2091 5 s1975 6 s1976 8 s1977 9 s1978 10 s1979 14 s1980 16 s1981 18 s1982 19 s1983 20 s1984 134 s1985 17 s1986 21 s1987
         clear hF2091
         refine then_normal (wq_region (wl_mv rfl rfl rfl s2103 (wl_v (iv (((plOff W H 2 + i2) + 1 : Nat) : Int)) rfl rfl (y_add rfl rfl rfl (i64_n (by omega) (by omega)) rr) (wl_v (iv (((plOff W H 2 + i2) + 1 : Nat) : Int)) rfl rfl (y_asg rfl rfl rr) (wl_nil fun F2105 hF2106 => ?_)))))
         obtain ⟨s2107, s2108, s2109, s2110, s2111, s2112, s2113, s2114, s2115, s2116, s2117, s2118⟩ := t12 hF2106 5 s2092 6 s2093 8 s2094 9 s2095 10 s2096 14 s2097 16 s2098 18 s2099 19 s2100 20 s2101 134 s2102 21 s2104
         have s2119 : F2105 17 = iv (((plOff W H 2 + i2) + 1 : Nat) : Int) := (hF2106 17).trans rfl
         clear hF2106
         refine in_normal (then_normal (wq_region (wl_mv rfl rfl rfl s2118 (wl_v (iv ((i2 + 1 : Nat) : Int)) rfl rfl (y_add rfl rfl rfl (i64_n (by omega) (by omega)) rr) (wl_v (iv ((i2 + 1 : Nat) : Int)) rfl rfl (y_asg rfl rfl rr) (wl_nil fun F2120 hF2121 => ?_))))))
         obtain ⟨s2122, s2123, s2124, s2125, s2126, s2127, s2128, s2129, s2130, s2131, s2132, s2133⟩ := t12 hF2121 5 s2107 6 s2108 8 s2109 9 s2110 10 s2111 14 s2112 16 s2113 18 s2114 19 s2115 20 s2116 134 s2117 17 s2119
         have s2134 : F2120 21 = iv ((i2 + 1 : Nat) : Int) := (hF2121 21).trans rfl
         clear hF2121
         exact then_normal ⟨((plN W 2 * plN H 2) - (i2 + 1)), by omega, i2 + 1, v1990, v1991, v1992, T1993, T1994, T1995, by omega, rfl, s2122, s2123, s2124, s2125, s2126, s2127, s2128, s2129, s2130, s2131, s2132, (by have h_ := s2133; exact h_), s2134, K2089, B2068, B2069, B2070, B2071, B2072, B2073, B2074, B2075, B2076, B2077, B2078, B2079, B2080, B2066, B2086, B2087, B2088, gr2005, gr2025, gr2045, ap2006, ap2007, ap2008, ap2009, ap2010, ap2011, ap2012, ap2013, ap2014, ap2015, ap2016, ap2017, ap2018, ap2019, ap2002, ap2003, ap2026, ap2027, ap2028, ap2029, ap2030, ap2031, ap2032, ap2033, ap2034, ap2035, ap2036, ap2037, ap2038, ap2039, ap2004, ap2046, ap2047, ap2048, ap2049, ap2050, ap2051, ap2052, ap2053, ap2054, ap2055, ap2056, ap2057, ap2058, ap2059⟩
        ·replace c1814 := of_decide_eq_false c1814
         refine wq_exit (then_exit (then_exit ?_))
         have l2135 : (plN W 2 * plN H 2) = i2 := by omega
         subst l2135
         refine in_here (in_normal (then_normal (wq_region (wl_mv rfl rfl rfl s1807 (wl_v (iv ((3 : Nat) : Int)) rfl rfl (y_add rfl rfl rfl (i64_n (by omega) (by omega)) rr) (wl_v (iv ((3 : Nat) : Int)) rfl rfl (y_asg rfl rfl rr) (wl_nil fun F2136 hF2137 => ?_)))))))
         obtain ⟨s2142, s2144, s2145⟩ := t3 hF2137 10 s1804 16 s1806 134 s1810
         have s2147 : F2136 18 = iv ((3 : Nat) : Int) := (hF2137 18).trans rfl
         clear hF2137
         refine then_normal (wqr_step (wq_seq (wq_seq (wq_region (wl_mv rfl rfl rfl s2147 (wl_v (.bool false) rfl rfl (y_lss rfl rfl rfl rfl rr) (wl_nil fun F2148 hF2149 => ?_)))))))
         obtain ⟨s2154, s2156, s2157⟩ := t3 hF2149 10 s2142 16 s2144 134 s2145
         have s2160 : F2148 72 = .bool false := (hF2149 72).trans rfl
         clear hF2149
         refine then_normal ?_
         refine wq_cond (t := false) s2160 (fun e => by cases e) (fun _ => ?_)
         refine wq_exit (then_exit (then_exit (in_here (then_normal (wq_seq (wq_region (wl_v (.agg #[iv ((decTo g h Q 2 (plN W 2) L (plOff W H 2) (frTo g h Q W H L 2) (plN W 2 * plN H 2)).W), iv ((decTo g h Q 2 (plN W 2) L (plOff W H 2) (frTo g h Q W H L 2) (plN W 2 * plN H 2)).H), a2, b2, c2]) rfl rfl (y_load_stc stcT_frame rfl s2156 B1746 rr) (wl_store_stc (us := [iv ((decTo g h Q 2 (plN W 2) L (plOff W H 2) (frTo g h Q W H L 2) (plN W 2 * plN H 2)).W), iv ((decTo g h Q 2 (plN W 2) L (plOff W H 2) (frTo g h Q W H L 2) (plN W 2 * plN H 2)).H), a2, b2, c2]) stcT_frame rfl rfl rfl s2154 rfl B1744 rfl (oneI rfl (oneI rfl (oneI B1747.one (oneI B1748.one (oneI B1749.one oneN))))) fun w2161 B2162 k2163 => ?_))))))))
         have B2177 := B1747.all k2163 ap1764
         have B2178 := B1748.all k2163 ap1780
         have B2179 := B1749.all k2163 ap1795
         have K2180 := K1717.trans k2163 (Grew.ok (S := fun _ => False) gr102 noB_le)
         refine wl_v (iv 0) rfl rfl (y_asg rfl rfl rr) (wl_nil fun F2181 hF2182 => ?_)
         obtain ⟨s2183, s2184⟩ := t2 hF2182 10 s2154 134 s2157
         have s2185 : F2181 11 = iv 0 := (hF2182 11).trans rfl
         clear hF2182
         refine then_normal (wq_ret ?_)
         exact end_2 s2184 rfl (res_stc (vs := [iv ((decTo g h Q 2 (plN W 2) L (plOff W H 2) (frTo g h Q W H L 2) (plN W 2 * plN H 2)).W), iv ((decTo g h Q 2 (plN W 2) L (plOff W H 2) (frTo g h Q W H L 2) (plN W 2 * plN H 2)).H), a2, b2, c2]) stcT_frame rfl s2183 B2162) (res_tmp (v := iv 0) rfl s2185) ⟨a2, T1712, b2, T1713, c2, T1714, (by rw [hE, hFr] <;> rfl), K2180, ⟨(by rw [hFr]; exact B2177), gr1750⟩, ⟨(by rw [hFr]; exact B2178), gr1751⟩, ⟨(by rw [hFr]; exact B2179), gr1752⟩, ap1767, ap1768, ap1783⟩
end Go.Proofs.YtknjpdcpmpfklaaGreatDoor
