/- What PictureStill reaches of my texts, part 7. -/
import Derived.Test.YtknjpdcpmpfklaaGreatDoorPictureStillF
set_option maxRecDepth 100000
set_option maxHeartbeats 4000000
set_option maxRecDepth 100000
namespace Go.Proofs.YtknjpdcpmpfklaaGreatDoor
open Go.RowKit
def step1 (l : List Nat) (n w : Nat) (u : Int) (c : Nat) : List Nat := if 0 ≤ u ∧ u < (w : Int) then l.set (n + u.toNat) c else l
theorem step1_length (l : List Nat) (n w : Nat) (u : Int) (c : Nat) : (step1 l n w u c).length = l.length := by unfold step1; split <;> simp
theorem step1_at (l : List Nat) (n w : Nat) (u : Int) (c q : Nat) : (step1 l n w u c).getD q 0 = if 0 ≤ u ∧ u < (w : Int) ∧ n + u.toNat = q ∧ q < l.length then c else l.getD q 0 := by
  unfold step1
  by_cases h : 0 ≤ u ∧ u < (w : Int)
  · rw [if_pos h, getD_set]
    by_cases h2 : n + u.toNat = q ∧ q < l.length
    · rw [if_pos h2, if_pos ⟨h.1, h.2, h2.1, h2.2⟩]
    · rw [if_neg h2, if_neg (fun k => h2 ⟨k.2.2.1, k.2.2.2⟩)]
  · rw [if_neg h, if_neg (fun k => h ⟨k.1, k.2.1⟩)]
theorem ext_getD {l m : List Nat} (hl : l.length = m.length) (h : ∀ q, q < l.length → l.getD q 0 = m.getD q 0) : l = m := by
  apply List.ext_getElem hl
  intro i h1 h2
  have := h i h1
  simpa [List.getD, h1, h2] using this
theorem cut_at (l m : List Nat) (off n q : Nat) (h : off + min n m.length ≤ l.length) : (l.take off ++ (m.take n ++ l.drop (off + min n m.length))).getD q 0 = if q < off then l.getD q 0 else if q < off + min n m.length then m.getD (q - off) 0 else l.getD q 0 := by
  have h1 : (l.take off).length = off := by rw [List.length_take]; omega
  have h2 : (m.take n).length = min n m.length := List.length_take ..
  simp only [List.getD_eq_getElem?_getD]
  by_cases hq : q < off
  · rw [if_pos hq, List.getElem?_append_left (by omega), List.getElem?_take, if_pos hq]
  · rw [if_neg hq, List.getElem?_append_right (by omega), h1]
    by_cases hr : q < off + min n m.length
    · rw [if_pos hr, List.getElem?_append_left (by omega), List.getElem?_take, if_pos (by omega)]
    · rw [if_neg hr, List.getElem?_append_right (by omega), h2, List.getElem?_drop]
      congr 2; omega
theorem lay_steps (l : List Nat) (n w : Nat) (x : Int) (a b c d : Nat) (h : n + w ≤ l.length) : layF l n (n + w) x [a, b, c, d] = step1 (step1 (step1 (step1 l n w x a) n w (x + 1) b) n w (x + 2) c) n w (x + 3) d := by
  unfold layF
  rw [show n + w - n = w by omega]
  obtain ⟨cx, hcx⟩ : ∃ k, k = (max 0 (min x (w : Int))).toNat := ⟨_, rfl⟩
  obtain ⟨dx, hdx⟩ : ∃ k, k = (max 0 (min (-x) 4)).toNat := ⟨_, rfl⟩
  rw [← hcx, ← hdx]
  have hd4 : ([a, b, c, d].drop dx).length = 4 - dx := by simp
  apply ext_getD
  · rw [step1_length, step1_length, step1_length, step1_length]
    simp; omega
  · intro q hq
    have hql : q < l.length := by
      have : (l.take (n + cx) ++ (([a, b, c, d].drop dx).take (w - cx) ++ l.drop (n + cx + min (w - cx) ([a, b, c, d].drop dx).length))).length = l.length := by simp; omega
      omega
    rw [cut_at _ _ _ _ _ (by rw [hd4]; omega), hd4]
    simp only [step1_at, step1_length]
    have hg : ∀ t, ([a, b, c, d].drop dx).getD t 0 = [a, b, c, d].getD (dx + t) 0 := fun t => by simp [List.getD_eq_getElem?_getD, List.getElem?_drop]
    rw [hg]
    by_cases h3 : 0 ≤ x + 3 ∧ x + 3 < (w : Int) ∧ n + (x + 3).toNat = q ∧ q < l.length
    · rw [if_pos h3, if_neg (by omega), if_pos (by omega), show dx + (q - (n + cx)) = 3 by omega]; rfl
    · rw [if_neg h3]
      by_cases h2 : 0 ≤ x + 2 ∧ x + 2 < (w : Int) ∧ n + (x + 2).toNat = q ∧ q < l.length
      · rw [if_pos h2, if_neg (by omega), if_pos (by omega), show dx + (q - (n + cx)) = 2 by omega]; rfl
      · rw [if_neg h2]
        by_cases h1 : 0 ≤ x + 1 ∧ x + 1 < (w : Int) ∧ n + (x + 1).toNat = q ∧ q < l.length
        · rw [if_pos h1, if_neg (by omega), if_pos (by omega), show dx + (q - (n + cx)) = 1 by omega]; rfl
        · rw [if_neg h1]
          by_cases h0 : 0 ≤ x ∧ x < (w : Int) ∧ n + x.toNat = q ∧ q < l.length
          · rw [if_pos h0, if_neg (by omega), if_pos (by omega), show dx + (q - (n + cx)) = 0 by omega]; rfl
          · rw [if_neg h0]
            by_cases hA : q < n + cx
            · rw [if_pos hA]
            · rw [if_neg hA, if_neg (by omega)]
theorem put_step {f : FD} {p : Int} (x y : Int) (b : Nat → Int) (k : Nat) (hp : 0 ≤ p) (hp2 : p ≤ 2) (hy : 0 ≤ nearI y + ((k / 4 : Nat) : Int) ∧ nearI y + ((k / 4 : Nat) : Int) < (sizeF f p).2) :
    (putTo f p x y b (k + 1)).pl p = step1 ((putTo f p x y b k).pl p) ((nearI y + ((k / 4 : Nat) : Int)) * (sizeF f p).1).toNat (sizeF f p).1.toNat (nearI x + ((k % 4 : Nat) : Int)) (byteI (b k)) ∧ ∀ q, 0 ≤ q → q ≤ 2 → q ≠ p → (putTo f p x y b (k + 1)).pl q = (putTo f p x y b k).pl q := by
  have hb := size_bounds f p
  by_cases h : within (sizeF f p).1 (sizeF f p).2 (nearI x + ((k % 4 : Nat) : Int)) (nearI y + ((k / 4 : Nat) : Int))
  · have hc := within_cell h
    rw [put_in h]
    have hs := setp_pl (putTo f p x y b k) p ((nearI y + ((k / 4 : Nat) : Int)) * (sizeF f p).1 + (nearI x + ((k % 4 : Nat) : Int))).toNat (byteI (b k)) hp hp2
    refine ⟨?_, hs.2⟩
    rw [hs.1]
    unfold step1
    unfold within at h
    rw [if_pos ⟨h.1, by omega⟩, Int.toNat_add (by omega) (by omega)]
  · rw [put_out h]
    refine ⟨?_, fun _ _ _ _ => rfl⟩
    unfold step1
    unfold within at h
    rw [if_neg (by omega)]
theorem put_line {f : FD} {p : Int} (x y : Int) (b : Nat → Int) (i : Nat) (hp : 0 ≤ p) (hp2 : p ≤ 2) (hsz : (sizeF f p).1 ≠ 0) (hy : 0 ≤ nearI y + (i : Int) ∧ nearI y + (i : Int) < (sizeF f p).2) :
    (putTo f p x y b (4 * (i + 1))).pl p = layF ((putTo f p x y b (4 * i)).pl p) ((nearI y + (i : Int)) * (sizeF f p).1).toNat ((nearI y + (i : Int)) * (sizeF f p).1 + (sizeF f p).1).toNat (nearI x) [byteI (b (i * 4)), byteI (b (i * 4 + 1)), byteI (b (i * 4 + 2)), byteI (b (i * 4 + 3))] ∧ ∀ q, 0 ≤ q → q ≤ 2 → q ≠ p → (putTo f p x y b (4 * (i + 1))).pl q = (putTo f p x y b (4 * i)).pl q := by
  have hb := size_bounds f p
  have hin : within (sizeF f p).1 (sizeF f p).2 0 (nearI y + (i : Int)) := ⟨by omega, by omega, hy.1, hy.2⟩
  have hin2 : within (sizeF f p).1 (sizeF f p).2 ((sizeF f p).1 - 1) (nearI y + (i : Int)) := ⟨by omega, by omega, hy.1, hy.2⟩
  have hc := within_cell hin
  have hc2 := within_cell hin2
  have q0 : 4 * i / 4 = i := by omega
  have q1 : (4 * i + 1) / 4 = i := by omega
  have q2 : (4 * i + 2) / 4 = i := by omega
  have q3 : (4 * i + 3) / 4 = i := by omega
  have r0 : 4 * i % 4 = 0 := by omega
  have r1 : (4 * i + 1) % 4 = 1 := by omega
  have r2 : (4 * i + 2) % 4 = 2 := by omega
  have r3 : (4 * i + 3) % 4 = 3 := by omega
  have s0 := put_step (f := f) (p := p) x y b (4 * i) hp hp2 (by rw [q0]; exact hy)
  have s1 := put_step (f := f) (p := p) x y b (4 * i + 1) hp hp2 (by rw [q1]; exact hy)
  have s2 := put_step (f := f) (p := p) x y b (4 * i + 2) hp hp2 (by rw [q2]; exact hy)
  have s3 := put_step (f := f) (p := p) x y b (4 * i + 3) hp hp2 (by rw [q3]; exact hy)
  rw [q0, r0] at s0
  rw [q1, r1] at s1
  rw [q2, r2] at s2
  rw [q3, r3] at s3
  have hlen : ((putTo f p x y b (4 * i)).pl p).length = (f.pl p).length := by
    have h := put_lens x y b (4 * i) hsz
    have : p = 0 ∨ p = 1 ∨ p = 2 := by omega
    rcases this with rfl | rfl | rfl
    · exact h.1
    · exact h.2.1
    · exact h.2.2
  have e : ((nearI y + (i : Int)) * (sizeF f p).1 + (sizeF f p).1).toNat = ((nearI y + (i : Int)) * (sizeF f p).1).toNat + (sizeF f p).1.toNat := Int.toNat_add (by omega) (by omega)
  rw [show 4 * (i + 1) = 4 * i + 3 + 1 by omega]
  refine ⟨?_, fun q h0 h2 hq => by rw [s3.2 q h0 h2 hq, s2.2 q h0 h2 hq, s1.2 q h0 h2 hq, s0.2 q h0 h2 hq]⟩
  rw [e, lay_steps _ _ _ _ _ _ _ _ (by rw [hlen]; omega), s3.1, s2.1, s1.1, s0.1]
  rw [show i * 4 = 4 * i by omega]
  rw [show nearI x + ((0 : Nat) : Int) = nearI x by omega]
  rfl
theorem size_copy (f : FD) (p : Int) : sizeF (copyF f) p = sizeF f p := by
  by_cases h : okF f
  · rw [copyF_yes h]
  · rw [copyF_no h, sizeF_no (fun k => h k.1), sizeF_no (fun k => absurd k.1 (by decide))]
theorem put_skip {f : FD} {p x y : Int} {b : Nat → Int} {i : Nat} (h : ¬ (0 ≤ nearI y + (i : Int) ∧ nearI y + (i : Int) < (sizeF f p).2)) : putTo f p x y b (4 * (i + 1)) = putTo f p x y b (4 * i) := by
  rw [show 4 * (i + 1) = 4 * i + 3 + 1 by omega]
  rw [put_out (k := 4 * i + 3) (by unfold within; rw [show (4 * i + 3) / 4 = i by omega]; omega), put_out (k := 4 * i + 2) (by unfold within; rw [show (4 * i + 2) / 4 = i by omega]; omega), put_out (k := 4 * i + 1) (by unfold within; rw [show (4 * i + 1) / 4 = i by omega]; omega), put_out (k := 4 * i) (by unfold within; rw [show (4 * i) / 4 = i by omega]; omega)]
end Go.Proofs.YtknjpdcpmpfklaaGreatDoor
set_option maxRecDepth 100000
namespace Go.Proofs.YtknjpdcpmpfklaaGreatDoor
open Go.RowKit
theorem Owb.of_eq {w : World} {T : Nat → Prop} {v : Value} {l m : List Nat} (e : m = l) (h : Owb w T v l) : Owb w T v m := e ▸ h
theorem size_two {f : FD} {p : Int} (h : 0 < (sizeF f p).2) : (sizeF f p).1 ≠ 0 := by
  by_cases hk : okF f ∧ 0 ≤ p ∧ p ≤ 2
  · have := (size_pos hk); omega
  · rw [sizeF_no hk] at h; exact absurd h (by decide)
theorem pl_put (p x y : Int) (b : Nat → Int) (f : FD) (f0 f1 f2 : Value) (T_f0 : Nat → Prop) (T_f1 : Nat → Prop) (T_f2 : Nat → Prop) (w0 : World) (h_f0 : Byt w0 T_f0 f0 ((f).p0)) (h_f1 : Byt w0 T_f1 f1 ((f).p1)) (h_f2 : Byt w0 T_f2 f2 ((f).p2)) :
  Calls Tryz.prog 43 #[.agg #[.int .i64 ((f).W), .int .i64 ((f).H), f0, f1, f2], .int .i64 (p), .int .i64 (x), .int .i64 (y), blkV (b)] w0 fun e w' => ∃ (v1 : Value) (T1 : Nat → Prop) (v2 : Value) (T2 : Nat → Prop) (v3 : Value) (T3 : Nat → Prop), e = .returned (.agg #[.int .i64 ((putFr f p x y b).W), .int .i64 ((putFr f p x y b).H), v1, v2, v3]) ∧ Kept (fun _ => False) w0 w' ∧ (Owb w' T1 v1 ((putFr f p x y b).p0) ∧ Grew w0 noB T1) ∧ (Owb w' T2 v2 ((putFr f p x y b).p1) ∧ Grew w0 noB T2) ∧ (Owb w' T3 v3 ((putFr f p x y b).p2) ∧ Grew w0 noB T3) ∧ Apart T1 T2 ∧ Apart T1 T3 ∧ Apart T2 T3 := by
 refine calls_wq (args := [.agg #[iv (f.W), iv (f.H), f0, f1, f2], iv p, iv x, iv y, blkV b]) 55 Tryz.func43 rfl rfl (Nat.le_of_ble_eq_true rfl) ?_
 have K0 := Kept.refl (fun _ => False) w0
 have hnx := near_bounds x
 have hny := near_bounds y
 have hsb := size_bounds f p
 have g_f0 := Grew.refl w0 T_f0
 have g_f1 := Grew.refl w0 T_f1
 have g_f2 := Grew.refl w0 T_f2
 refine wq_seq (wq_region (wl_box_stc (vs := [iv (f.W), iv (f.H), f0, f1, f2]) rfl rfl rfl rfl fun p1 w2 B4 g5 k3 => ?_))
 have B10 := h_f0.all k3 Apart.none
 have B11 := h_f1.all k3 Apart.none
 have B12 := h_f2.all k3 Apart.none
 have K13 := K0.tr k3
 refine wl_box_blk rfl rfl rfl rfl fun p14 w15 e18 B16 k17 => ?_
 have g19 := onB_new (Nat.le_of_eq e18.symm)
 clear e18 g19
 have B25 := B10.all k17 Apart.none
 have B26 := B11.all k17 Apart.none
 have B27 := B12.all k17 Apart.none
 have B28 := B4.all k17 id
 have K29 := K13.tr k17
 refine wl_alloc_stc (n := 5) (vs := [iv 0, iv 0, .slice none 0 0, .slice none 0 0, .slice none 0 0]) rfl rfl rfl (by kernel_rfl) fun p30 w31 B33 g34 k32 => ?_
 have gr35 : Grew w0 noB (onB p30) := Grew.new K29 g34
 have B41 := B25.all k32 Apart.none
 have B42 := B26.all k32 Apart.none
 have B43 := B27.all k32 Apart.none
 have B44 := B28.all k32 id
 have B45 := B16.all k32 id
 have K46 := K29.tr k32
 refine wl_nil fun F47 hF48 => ?_
 have s49 : F47 1 = iv p := (hF48 1).trans rfl
 have s50 : F47 2 = iv x := (hF48 2).trans rfl
 have s51 : F47 3 = iv y := (hF48 3).trans rfl
 have s52 : F47 55 = undef := (hF48 55).trans rfl
 have s53 : F47 5 = pt p1 0 := (hF48 5).trans rfl
 have s54 : F47 9 = pt p14 0 := (hF48 9).trans rfl
 have s55 : F47 10 = pt p30 0 := (hF48 10).trans rfl
 clear hF48
 refine then_normal (wq_seq (wq_region (wl_v (.agg #[iv (f.W), iv (f.H), f0, f1, f2]) rfl rfl (y_load_stc stcT_frame rfl s53 B44 rr) (wl_call (R := fun v_ w_ => ∃ (v56 : Value) (T61 : Nat → Prop) (v57 : Value) (T62 : Nat → Prop) (v58 : Value) (T63 : Nat → Prop), .agg #[iv ((copyF f).W), iv ((copyF f).H), v56, v57, v58] = v_ ∧ Kept (fun _ => False) w31 w_ ∧ (Owb w_ T61 v56 ((copyF f).p0) ∧ Grew w31 noB T61) ∧ (Owb w_ T62 v57 ((copyF f).p1) ∧ Grew w31 noB T62) ∧ (Owb w_ T63 v58 ((copyF f).p2) ∧ Grew w31 noB T63) ∧ Apart T61 T62 ∧ Apart T61 T63 ∧ Apart T62 T63) rfl rfl (y_cs rfl rfl rfl (fun _ _ => by kernel_rfl) (ev_func _) (vsC rfl vsN) (pl_copy f f0 f1 f2 T_f0 T_f1 T_f2 _  B41 B42 B43 ) (fun e_ w_ h_ => by obtain ⟨v56_, T61_, v57_, T62_, v58_, T63_, he_, hr_⟩ := h_; exact ⟨_, he_, v56_, T61_, v57_, T62_, v58_, T63_, rfl, hr_⟩)) ?_))))
 rintro _ w59 ⟨v56, T61, v57, T62, v58, T63, rfl, k60, ⟨B64, g67⟩, ⟨B65, g68⟩, ⟨B66, g69⟩, ap70, ap71, ap72⟩
 have B73 := B41.all k60 Apart.none
 have B74 := B42.all k60 Apart.none
 have B75 := B43.all k60 Apart.none
 have B76 := B44.all k60 id
 have B77 := B45.all k60 id
 have B78 := B33.all k60 id
 have K79 := K46.tr k60
 have gr80 : Grew w0 noB T61 := Grew.new K46 g67
 have ap81 : Apart T61 T_f0 := Apart.new g67 B41.live
 have ap82 : Apart T61 T_f1 := Apart.new g67 B42.live
 have ap83 : Apart T61 T_f2 := Apart.new g67 B43.live
 have ap84 : Apart T61 (onB p1) := Apart.new g67 (onB_live B44.lt)
 have ap85 : Apart T61 (onB p14) := Apart.new g67 (onB_live B45.lt)
 have ap86 : Apart T61 (onB p30) := Apart.new g67 (onB_live B33.lt)
 have gr87 : Grew w0 noB T62 := Grew.new K46 g68
 have ap88 : Apart T62 T_f0 := Apart.new g68 B41.live
 have ap89 : Apart T62 T_f1 := Apart.new g68 B42.live
 have ap90 : Apart T62 T_f2 := Apart.new g68 B43.live
 have ap91 : Apart T62 (onB p1) := Apart.new g68 (onB_live B44.lt)
 have ap92 : Apart T62 (onB p14) := Apart.new g68 (onB_live B45.lt)
 have ap93 : Apart T62 (onB p30) := Apart.new g68 (onB_live B33.lt)
 have gr94 : Grew w0 noB T63 := Grew.new K46 g69
 have ap95 : Apart T63 T_f0 := Apart.new g69 B41.live
 have ap96 : Apart T63 T_f1 := Apart.new g69 B42.live
 have ap97 : Apart T63 T_f2 := Apart.new g69 B43.live
 have ap98 : Apart T63 (onB p1) := Apart.new g69 (onB_live B44.lt)
 have ap99 : Apart T63 (onB p14) := Apart.new g69 (onB_live B45.lt)
 have ap100 : Apart T63 (onB p30) := Apart.new g69 (onB_live B33.lt)
 refine wl_alloc_stc (n := 5) (vs := [iv 0, iv 0, .slice none 0 0, .slice none 0 0, .slice none 0 0]) rfl rfl rfl (by kernel_rfl) fun p101 w102 B104 g105 k103 => ?_
 have gr106 : Grew w0 noB (onB p101) := Grew.new K79 g105
 have ap107 : Apart (onB p101) T_f0 := Apart.new g105 B73.live
 have ap108 : Apart (onB p101) T_f1 := Apart.new g105 B74.live
 have ap109 : Apart (onB p101) T_f2 := Apart.new g105 B75.live
 have ap110 : Apart (onB p101) (onB p1) := Apart.new g105 (onB_live B76.lt)
 have ap111 : Apart (onB p101) (onB p14) := Apart.new g105 (onB_live B77.lt)
 have ap112 : Apart (onB p101) (onB p30) := Apart.new g105 (onB_live B78.lt)
 have ap113 : Apart (onB p101) T61 := Apart.new g105 B64.live
 have ap114 : Apart (onB p101) T62 := Apart.new g105 B65.live
 have ap115 : Apart (onB p101) T63 := Apart.new g105 B66.live
 have B116 := B73.all k103 Apart.none
 have B117 := B74.all k103 Apart.none
 have B118 := B75.all k103 Apart.none
 have B119 := B76.all k103 id
 have B120 := B77.all k103 id
 have B121 := B78.all k103 id
 have B122 := B64.all k103 Apart.none
 have B123 := B65.all k103 Apart.none
 have B124 := B66.all k103 Apart.none
 have K125 := K79.tr k103
 refine wl_store_stc (us := [iv ((copyF f).W), iv ((copyF f).H), v56, v57, v58]) stcT_frame rfl rfl rfl rfl rfl B104 rfl (oneI rfl (oneI rfl (oneI B122.one (oneI B123.one (oneI B124.one oneN))))) fun w126 B127 k128 => ?_
 have B129 := B116.all k128 ap107.symm
 have B130 := B117.all k128 ap108.symm
 have B131 := B118.all k128 ap109.symm
 have B132 := B119.all k128 (ap110.symm p1 rfl)
 have B133 := B120.all k128 (ap111.symm p14 rfl)
 have B134 := B121.all k128 (ap112.symm p30 rfl)
 have B135 := B122.all k128 ap113.symm
 have B136 := B123.all k128 ap114.symm
 have B137 := B124.all k128 ap115.symm
 have K138 := K125.trans k128 (Grew.ok (S := fun _ => False) gr106 noB_le)
 refine wl_nil fun F139 hF140 => ?_
 obtain ⟨s141, s142, s143, s144, s145, s146⟩ := t6 hF140 1 s49 2 s50 3 s51 55 s52 9 s54 10 s55
 have s147 : F139 11 = pt p101 0 := (hF140 11).trans rfl
 clear hF140
 refine then_normal (wq_seq (wq_region (wl_v (.agg #[iv ((copyF f).W), iv ((copyF f).H), v56, v57, v58]) rfl rfl (y_load_stc stcT_frame rfl s147 B127 rr) (wl_mv rfl rfl rfl s141 (wl_cs rfl rfl rfl rfl rfl (fun _ _ => by kernel_rfl) (vsC rfl (vsC rfl vsN)) (pl_size p (copyF f) v56 v57 v58 T61 T62 T63 _  B135.byt B136.byt B137.byt ) fun w148 k149 => ?_)))))
 have B150 := B129.all k149 Apart.none
 have B151 := B130.all k149 Apart.none
 have B152 := B131.all k149 Apart.none
 have B153 := B132.all k149 id
 have B154 := B133.all k149 id
 have B155 := B134.all k149 id
 have B156 := B135.all k149 Apart.none
 have B157 := B136.all k149 Apart.none
 have B158 := B137.all k149 Apart.none
 have B159 := B127.all k149 id
 have K160 := K138.tr k149
 refine wl_v (.tuple #[iv ((sizeF (copyF f) p).1), iv ((sizeF (copyF f) p).2)]) rfl rfl (y_mov rfl rfl rr) (wl_v (iv ((sizeF (copyF f) p).1)) rfl rfl (y_ext rfl rfl rfl rr) (wl_v (iv ((sizeF (copyF f) p).2)) rfl rfl (y_ext rfl rfl rfl rr) (wl_v (iv ((sizeF (copyF f) p).1)) rfl rfl (y_asg rfl rfl rr) (wl_v (iv ((sizeF (copyF f) p).2)) rfl rfl (y_asg rfl rfl rr) (wl_nil fun F161 hF162 => ?_)))))
 obtain ⟨s163, s164, s165, s166, s167, s168, s169⟩ := t7 hF162 1 s141 2 s142 3 s143 55 s144 9 s145 10 s146 11 s147
 have s170 : F161 12 = iv ((sizeF (copyF f) p).1) := (hF162 12).trans rfl
 have s171 : F161 13 = iv ((sizeF (copyF f) p).2) := (hF162 13).trans rfl
 clear hF162
 refine then_normal (wq_seq ?_)
 have s172 : F161 12 = iv ((sizeF f p).1) := s170.trans (congrArg (Value.int .i64) (congrArg Prod.fst (size_copy f p)))
 have s173 : F161 13 = iv ((sizeF f p).2) := s171.trans (congrArg (Value.int .i64) (congrArg Prod.snd (size_copy f p)))
 refine wq_region (wl_mv rfl rfl rfl s164 (wl_cs rfl rfl rfl rfl rfl (fun _ _ => by kernel_rfl) (vsC rfl vsN) (ps_near x  _   ) fun w174 k175 => ?_))
 have B176 := B150.all k175 Apart.none
 have B177 := B151.all k175 Apart.none
 have B178 := B152.all k175 Apart.none
 have B179 := B153.all k175 id
 have B180 := B154.all k175 id
 have B181 := B155.all k175 id
 have B182 := B156.all k175 Apart.none
 have B183 := B157.all k175 Apart.none
 have B184 := B158.all k175 Apart.none
 have B185 := B159.all k175 id
 have K186 := K160.tr k175
 refine wl_mv rfl rfl rfl s165 (wl_cs rfl rfl rfl rfl rfl (fun _ _ => by kernel_rfl) (vsC rfl vsN) (ps_near y  _   ) fun w187 k188 => ?_)
 have B189 := B176.all k188 Apart.none
 have B190 := B177.all k188 Apart.none
 have B191 := B178.all k188 Apart.none
 have B192 := B179.all k188 id
 have B193 := B180.all k188 id
 have B194 := B181.all k188 id
 have B195 := B182.all k188 Apart.none
 have B196 := B183.all k188 Apart.none
 have B197 := B184.all k188 Apart.none
 have B198 := B185.all k188 id
 have K199 := K186.tr k188
 refine wl_v (iv (nearI x)) rfl rfl (y_asg rfl rfl rr) (wl_v (iv (nearI y)) rfl rfl (y_asg rfl rfl rr) (wl_nil fun F200 hF201 => ?_))
 obtain ⟨s202, s203, s204, s205, s206, s207, s208⟩ := t7 hF201 1 s163 55 s166 9 s167 10 s168 11 s169 12 s172 13 s173
 have s209 : F200 2 = iv (nearI x) := (hF201 2).trans rfl
 have s210 : F200 3 = iv (nearI y) := (hF201 3).trans rfl
 clear hF201
 refine then_normal (wq_seq (wq_seq (wq_region (wl_v (iv 0) rfl rfl (y_mov rfl rfl rr) (wl_nil fun F211 hF212 => ?_)))))
 obtain ⟨s213, s214, s215, s216, s217, s218, s219, s220, s221⟩ := t9 hF212 1 s202 55 s203 9 s204 10 s205 11 s206 12 s207 13 s208 2 s209 3 s210
 have s222 : F211 28 = iv 0 := (hF212 28).trans rfl
 clear hF212
 refine then_normal (wq_block (wq_loop (fun nn FF ww => ∃ (i : Nat), ∃ (T223 : Nat → Prop), ∃ (T224 : Nat → Prop), ∃ (T225 : Nat → Prop), (i ≤ 4) ∧ nn = 4 - i ∧ FF 1 = iv p ∧ FF 2 = iv (nearI x) ∧ FF 3 = iv (nearI y) ∧ FF 9 = pt p14 0 ∧ FF 10 = pt p30 0 ∧ FF 11 = pt p101 0 ∧ FF 12 = iv ((sizeF f p).1) ∧ FF 13 = iv ((sizeF f p).2) ∧ FF 55 = undef ∧ FF 28 = iv ((i : Nat) : Int) ∧ Kept (fun _ => False) w0 ww ∧ Byt ww T_f0 f0 (f.p0) ∧ Byt ww T_f1 f1 (f.p1) ∧ Byt ww T_f2 f2 (f.p2) ∧ Stc ww p1 29 [iv (f.W), iv (f.H), f0, f1, f2] ∧ Blk ww p14 69 b ∧ Stc ww p30 29 [iv 0, iv 0, .slice none 0 0, .slice none 0 0, .slice none 0 0] ∧ Owb ww T223 v56 ((putTo f p x y b (4 * i)).p0) ∧ Owb ww T224 v57 ((putTo f p x y b (4 * i)).p1) ∧ Owb ww T225 v58 ((putTo f p x y b (4 * i)).p2) ∧ Stc ww p101 29 [iv ((copyF f).W), iv ((copyF f).H), v56, v57, v58] ∧ Grew w0 noB T223 ∧ Grew w0 noB T224 ∧ Grew w0 noB T225 ∧ Apart T223 T_f0 ∧ Apart T223 T_f1 ∧ Apart T223 T_f2 ∧ Apart T223 (onB p1) ∧ Apart T223 (onB p14) ∧ Apart T223 (onB p30) ∧ Apart T223 T224 ∧ Apart T223 T225 ∧ Apart T223 (onB p101) ∧ Apart T224 T_f0 ∧ Apart T224 T_f1 ∧ Apart T224 T_f2 ∧ Apart T224 (onB p1) ∧ Apart T224 (onB p14) ∧ Apart T224 (onB p30) ∧ Apart T224 T225 ∧ Apart T224 (onB p101) ∧ Apart T225 T_f0 ∧ Apart T225 T_f1 ∧ Apart T225 T_f2 ∧ Apart T225 (onB p1) ∧ Apart T225 (onB p14) ∧ Apart T225 (onB p30) ∧ Apart T225 (onB p101)) (4 - 0) ⟨0, T61, T62, T63, by omega, rfl, s213, s220, s221, s215, s216, s217, s218, s219, s214, s222, K199, B189, B190, B191, B192, B193, B194, B195, B196, B197, B198, gr80, gr87, gr94, ap81, ap82, ap83, ap84, ap85, ap86, ap70, ap71, ap113.symm, ap88, ap89, ap90, ap91, ap92, ap93, ap72, ap114.symm, ap95, ap96, ap97, ap98, ap99, ap100, ap115.symm⟩ ?_))
 rintro n229 F226 w227 ⟨i, T223, T224, T225, i230, hn229, s231, s232, s233, s234, s235, s236, s237, s238, s239, s240, K228, B241, B242, B243, B244, B245, B246, B247, B248, B249, B250, gr251, gr252, gr253, ap254, ap255, ap256, ap257, ap258, ap259, ap260, ap261, ap262, ap263, ap264, ap265, ap266, ap267, ap268, ap269, ap270, ap271, ap272, ap273, ap274, ap275, ap276, ap277⟩
 refine wq_seq (wq_region (wl_v (.bool (decide (((i : Nat) : Int) < 4))) rfl rfl (y_lss rfl s240 rfl rfl rr) (wl_nil fun F278 hF279 => ?_)))
 obtain ⟨s280, s281, s282, s283, s284, s285, s286, s287, s288, s289⟩ := t10 hF279 1 s231 2 s232 3 s233 9 s234 10 s235 11 s236 12 s237 13 s238 55 s239 28 s240
 have s290 : F278 29 = .bool (decide (((i : Nat) : Int) < 4)) := (hF279 29).trans rfl
 clear hF279
 refine then_normal (wq_seq ?_)
 refine wq_cond s290 (fun c291 => ?_) (fun c291 => ?_)
 ·replace c291 := of_decide_eq_true c291
  refine wq_skip (then_normal (wq_seq (wq_block (wq_seq (wq_region (wl_mv rfl rfl rfl s289 (wl_v (iv ((i : Nat) : Int)) rfl rfl (y_asg rfl rfl rr) (wl_nil fun F292 hF293 => ?_))))))))
  obtain ⟨s294, s295, s296, s297, s298, s299, s300, s301, s302, s303⟩ := t10 hF293 1 s280 2 s281 3 s282 9 s283 10 s284 11 s285 12 s286 13 s287 55 s288 28 s289
  have s304 : F292 14 = iv ((i : Nat) : Int) := (hF293 14).trans rfl
  clear hF293
  refine then_normal (wq_seq (wq_region (wl_mv rfl rfl rfl s296 (wl_mv rfl rfl rfl s304 (wl_v (iv ((nearI y) + ((i : Nat) : Int))) rfl rfl (y_add rfl rfl rfl (i64_i rfl (by omega)) rr) (wl_v (iv ((nearI y) + ((i : Nat) : Int))) rfl rfl (y_asg rfl rfl rr) (wl_nil fun F305 hF306 => ?_)))))))
  obtain ⟨s307, s308, s309, s310, s311, s312, s313, s314, s315, s316, s317⟩ := t11 hF306 1 s294 2 s295 3 s296 9 s297 10 s298 11 s299 12 s300 13 s301 55 s302 28 s303 14 s304
  have s318 : F305 15 = iv ((nearI y) + ((i : Nat) : Int)) := (hF306 15).trans rfl
  clear hF306
  refine then_normal (wq_seq ?_)
  by_cases d319 : 0 ≤ ((nearI y) + ((i : Nat) : Int))
  ·skip
   refine wq_region (wl_mv rfl rfl rfl s318 (wl_v (.bool true) rfl rfl (y_geq rfl rfl rfl (decide_eq_true d319) rr) (wl_v (.bool true) rfl rfl (y_mov rfl rfl rr) (wl_vw (iv ((nearI y) + ((i : Nat) : Int))) 2 true 36 rfl rfl rfl rfl rfl (y_mov rfl s318 rr) (wl_vw (iv ((sizeF f p).2)) 2 true 36 rfl rfl rfl rfl rfl (y_mov rfl s314 rr) (wl_vw (.bool (decide (((nearI y) + ((i : Nat) : Int)) < ((sizeF f p).2)))) 2 true 36 rfl rfl rfl rfl rfl (y_lss rfl rfl rfl rfl rr) (wl_v (.bool (decide (((nearI y) + ((i : Nat) : Int)) < ((sizeF f p).2)))) rfl rfl (y_pickT rfl rfl rfl rr) (wl_nil fun F320 hF321 => ?_))))))))
   obtain ⟨s322, s323, s324, s325, s326, s327, s328, s329, s330, s331, s332, s333⟩ := t12 hF321 1 s307 2 s308 3 s309 9 s310 10 s311 11 s312 12 s313 13 s314 55 s315 28 s316 14 s317 15 s318
   have s334 : F320 40 = .bool (decide (((nearI y) + ((i : Nat) : Int)) < ((sizeF f p).2))) := (hF321 40).trans rfl
   clear hF321
   refine then_normal ?_
   refine wq_cond s334 (fun c335 => ?_) (fun c335 => ?_)
   ·replace c335 := of_decide_eq_true c335
    rcases (show p = 0 ∨ p = 1 ∨ p = 2 from size_cases (f := f) (size_two (by omega))) with rfl | rfl | rfl
    ·skip
     have hsz : (sizeF f 0).1 ≠ 0 := size_two (by omega)
     have hsp := size_pos (size_some hsz)
     have hL := @put_line f 0 x y b i (by decide) (by decide) hsz ⟨by omega, by omega⟩
     have hin2 : within (sizeF f 0).1 (sizeF f 0).2 ((sizeF f 0).1 - 1) (nearI y + (i : Int)) := ⟨by omega, by omega, by omega, by omega⟩
     have hc := within_cell hin2
     have hls := put_lens x y b (4 * i) hsz
     have hp0 : (f.pl 0).length = f.p0.length := rfl
     have hp1 : (f.pl 1).length = f.p1.length := rfl
     have hp2 : (f.pl 2).length = f.p2.length := rfl
     refine wq_tail 11 [some 41, some 42, some 43, some 44, some 45, some 46, some 47, some 48, some 49, some 50, some 51] [Pd.eq (iv 0), Pd.eq (pt p101 2), Pd.eq (pt p101 2), Pd.eq v56, Pd.eq (iv ((sizeF f 0).1)), Pd.eq (iv ((nearI y) + ((i : Nat) : Int))), Pd.eq (subV v56 ((((nearI y) + ((i : Nat) : Int)) * ((sizeF f 0).1)).toNat) ((((nearI y) + ((i : Nat) : Int)) * ((sizeF f 0).1) + ((sizeF f 0).1)).toNat) ((((nearI y) + ((i : Nat) : Int)) * ((sizeF f 0).1) + ((sizeF f 0).1)).toNat)), Pd.eq (iv (nearI x)), Pd.eq (blkV b), Pd.eq (iv ((i : Nat) : Int)), Pd.eq (.agg #[.int .u8 ((byteI (b (i * 4)) : Nat) : Int), .int .u8 ((byteI (b (i * 4 + 1)) : Nat) : Int), .int .u8 ((byteI (b (i * 4 + 2)) : Nat) : Int), .int .u8 ((byteI (b (i * 4 + 3)) : Nat) : Int)])] (by kernel_rfl) (by kernel_rfl) (by kernel_rfl) ?_ ?_
     ·refine stepsF_cons ?_ ?_
      ·refine StepF.one rfl fun F_ w_ hR hout hD => ?_
       exact (y_mov rfl ((hout 1 rfl (by decide)).trans s322) ⟨rfl, Kept.refl _ _⟩)
      refine stepsF_cons ?_ ?_
      ·refine StepF.one rfl fun F_ w_ hR hout hD => ?_
       exact (y_fieldR (n := 3) rfl ((hout 11 rfl (by decide)).trans s327) Tryz.underlying29 rfl (by kernel_rfl) (by decide) rfl ⟨rfl, Kept.refl _ _⟩)
      refine stepsF_cons ?_ ?_
      ·refine StepF.one rfl fun F_ w_ hR hout hD => ?_
       have g42 : F_ 42 = pt p101 2 := (hD.get 0 rfl rfl rfl)
       have g41 : F_ 41 = iv 0 := (hD.get 1 rfl rfl rfl)
       exact (y_atR 0 (s := 1) rfl g42 g41 (by omega) Tryz.underlying27 (by omega) (by kernel_rfl) (by omega) ⟨rfl, Kept.refl _ _⟩)
      refine stepsF_cons ?_ ?_
      ·refine StepF.one rfl fun F_ w_ hR hout hD => ?_
       have g43 : F_ 43 = pt p101 2 := (hD.get 0 rfl rfl rfl)
       exact (y_ld_stc rfl g43 Tryz.underlying26 (B250.all hR id) rfl rfl ⟨rfl, Kept.refl _ _⟩)
      refine stepsF_cons ?_ ?_
      ·refine StepF.one rfl fun F_ w_ hR hout hD => ?_
       exact (y_mov rfl ((hout 12 rfl (by decide)).trans s328) ⟨rfl, Kept.refl _ _⟩)
      refine stepsF_cons ?_ ?_
      ·refine StepF.one rfl fun F_ w_ hR hout hD => ?_
       exact (y_mov rfl ((hout 15 rfl (by decide)).trans s333) ⟨rfl, Kept.refl _ _⟩)
      refine stepsF_cons ?_ ?_
      ·refine StepF.one rfl fun F_ w_ hR hout hD => ?_
       have g44 : F_ 44 = v56 := (hD.get 0 rfl rfl rfl)
       have g45 : F_ 45 = iv ((sizeF f 0).1) := (hD.get 1 rfl rfl rfl)
       have g46 : F_ 46 = iv ((nearI y) + ((i : Nat) : Int)) := (hD.get 2 rfl rfl rfl)
       exact (y_cs rfl rfl rfl (fun _ _ => by kernel_rfl) (ev_func _) (vsC g44 (vsC g45 (vsC g46 vsN))) (ps_row v56 ((putTo f 0 x y b (4 * i)).p0) ((sizeF f 0).1) ((nearI y) + ((i : Nat) : Int)) T223 _ (by omega) (by omega) (by omega) (by omega) (B247.all hR Apart.none).byt ) (fun e_ w_ h_ => ⟨_, h_.1, rfl, h_.2⟩))
      refine stepsF_cons ?_ ?_
      ·refine StepF.one rfl fun F_ w_ hR hout hD => ?_
       exact (y_mov rfl ((hout 2 rfl (by decide)).trans s323) ⟨rfl, Kept.refl _ _⟩)
      refine stepsF_cons ?_ ?_
      ·refine StepF.one rfl fun F_ w_ hR hout hD => ?_
       exact (y_load_blk blkT_block rfl ((hout 9 rfl (by decide)).trans s325) (B245.all hR id) ⟨rfl, Kept.refl _ _⟩)
      refine stepsF_cons ?_ ?_
      ·refine StepF.one rfl fun F_ w_ hR hout hD => ?_
       exact (y_mov rfl ((hout 14 rfl (by decide)).trans s332) ⟨rfl, Kept.refl _ _⟩)
      refine stepsF_cons ?_ ?_
      ·refine StepF.one rfl fun F_ w_ hR hout hD => ?_
       have g49 : F_ 49 = blkV b := (hD.get 0 rfl rfl rfl)
       have g50 : F_ 50 = iv ((i : Nat) : Int) := (hD.get 1 rfl rfl rfl)
       exact (y_cs rfl rfl rfl (fun _ _ => by kernel_rfl) (ev_func _) (vsC g49 (vsC g50 vsN)) (ps_line b i  _ (by omega)  ) (fun e_ w_ h_ => ⟨_, h_.1, rfl, h_.2⟩))
      exact stepsF_nil
     intro v336 F337 w338 k339 G340 hF341
     have B343 := B241.all k339 Apart.none
     have B344 := B242.all k339 Apart.none
     have B345 := B243.all k339 Apart.none
     have B346 := B244.all k339 id
     have B347 := B245.all k339 id
     have B348 := B246.all k339 id
     have B349 := B247.all k339 Apart.none
     have B350 := B248.all k339 Apart.none
     have B351 := B249.all k339 Apart.none
     have B352 := B250.all k339 id
     have K353 := K228.tr k339
     obtain ⟨s354, s355, s356, s357, s358, s359, s360, s361, s362, s363⟩ := t10 hF341 1 s322 2 s323 3 s324 9 s325 10 s326 11 s327 12 s328 13 s329 55 s330 28 s331
     have s364 : F337 47 = subV v56 ((((nearI y) + ((i : Nat) : Int)) * ((sizeF f 0).1)).toNat) ((((nearI y) + ((i : Nat) : Int)) * ((sizeF f 0).1) + ((sizeF f 0).1)).toNat) ((((nearI y) + ((i : Nat) : Int)) * ((sizeF f 0).1) + ((sizeF f 0).1)).toNat) := (hF341 47).trans (G340 6 (by decide))
     have s365 : F337 48 = iv (nearI x) := (hF341 48).trans (G340 7 (by decide))
     have s366 : F337 51 = .agg #[.int .u8 ((byteI (b (i * 4)) : Nat) : Int), .int .u8 ((byteI (b (i * 4 + 1)) : Nat) : Int), .int .u8 ((byteI (b (i * 4 + 2)) : Nat) : Int), .int .u8 ((byteI (b (i * 4 + 3)) : Nat) : Int)] := (hF341 51).trans (G340 10 (by decide))
     clear G340 hF341
     refine wl_call (R := fun v_ w_ => ∃ (T369 : Nat → Prop), .tuple #[] = v_ ∧ Kept T223 w338 w_ ∧ (Owb w_ T369 v56 (layF ((putTo f 0 x y b (4 * i)).p0) ((((nearI y) + ((i : Nat) : Int)) * ((sizeF f 0).1)).toNat) ((((nearI y) + ((i : Nat) : Int)) * ((sizeF f 0).1) + ((sizeF f 0).1)).toNat) (nearI x) [(byteI (b (i * 4))), (byteI (b (i * 4 + 1))), (byteI (b (i * 4 + 2))), (byteI (b (i * 4 + 3)))]) ∧ Grew w338 T223 T369)) rfl rfl (y_cs rfl rfl rfl (fun _ _ => by kernel_rfl) (ev_func _) (vsC s364 (vsC s365 (vsC s366 vsN))) (ps_lay v56 ((putTo f 0 x y b (4 * i)).p0) ((((nearI y) + ((i : Nat) : Int)) * ((sizeF f 0).1)).toNat) ((((nearI y) + ((i : Nat) : Int)) * ((sizeF f 0).1) + ((sizeF f 0).1)).toNat) (nearI x) (byteI (b (i * 4))) (byteI (b (i * 4 + 1))) (byteI (b (i * 4 + 2))) (byteI (b (i * 4 + 3))) T223 _ (by omega) (by omega) (by omega) (byteI_lt _) (byteI_lt _) (byteI_lt _) (byteI_lt _) B349 ) (fun e_ w_ h_ => by obtain ⟨T369_, he_, hr_⟩ := h_; exact ⟨_, he_, T369_, rfl, hr_⟩)) ?_
     rintro _ w367 ⟨T369, rfl, k368, ⟨B370, g371⟩⟩
     have B372 := B343.all k368 ap254.symm
     have B373 := B344.all k368 ap255.symm
     have B374 := B345.all k368 ap256.symm
     have B375 := B346.all k368 (ap257.symm p1 rfl)
     have B376 := B347.all k368 (ap258.symm p14 rfl)
     have B377 := B348.all k368 (ap259.symm p30 rfl)
     have B378 := B350.all k368 ap260.symm
     have B379 := B351.all k368 ap261.symm
     have B380 := B352.all k368 (ap262.symm p101 rfl)
     have K381 := K353.trans k368 (fun i hi x => ((Grew.ok (S := fun _ => False) gr251 noB_le) i hi x))
     have gr382 := gr251.trans K353 g371
     have ap383 : Apart T369 T_f0 := ap254.grew g371 B343.live
     have ap384 : Apart T369 T_f1 := ap255.grew g371 B344.live
     have ap385 : Apart T369 T_f2 := ap256.grew g371 B345.live
     have ap386 : Apart T369 (onB p1) := ap257.grew g371 (onB_live B346.lt)
     have ap387 : Apart T369 (onB p14) := ap258.grew g371 (onB_live B347.lt)
     have ap388 : Apart T369 (onB p30) := ap259.grew g371 (onB_live B348.lt)
     have ap389 : Apart T369 T224 := ap260.grew g371 B350.live
     have ap390 : Apart T369 T225 := ap261.grew g371 B351.live
     have ap391 : Apart T369 (onB p101) := ap262.grew g371 (onB_live B352.lt)
     refine wl_nil fun F392 hF393 => ?_
     obtain ⟨s394, s395, s396, s397, s398, s399, s400, s401, s402, s403⟩ := t10 hF393 1 s354 2 s355 3 s356 9 s357 10 s358 11 s359 12 s360 13 s361 55 s362 28 s363
     clear hF393
     refine in_normal (then_normal (wq_region (wl_v (iv ((i + 1 : Nat) : Int)) rfl rfl (y_add rfl s403 rfl (i64_n (by omega) (by omega)) rr) (wl_v (iv ((i + 1 : Nat) : Int)) rfl rfl (y_mov rfl rfl rr) (wl_nil fun F404 hF405 => ?_)))))
     obtain ⟨s406, s407, s408, s409, s410, s411, s412, s413, s414⟩ := t9 hF405 1 s394 2 s395 3 s396 9 s397 10 s398 11 s399 12 s400 13 s401 55 s402
     have s415 : F404 28 = iv ((i + 1 : Nat) : Int) := (hF405 28).trans rfl
     clear hF405
     exact then_normal ⟨(4 - (i + 1)), by omega, i + 1, T369, T224, T225, by omega, rfl, s406, s407, s408, s409, s410, s411, s412, s413, s414, s415, K381, B372, B373, B374, B375, B376, B377, (by first | exact Owb.of_eq hL.1 B370 | exact Owb.of_eq (hL.2 0 (by decide) (by decide) (by decide)) B370 | exact Owb.of_eq (congrArg FD.p0 (put_skip (by omega))) B370), (by first | exact Owb.of_eq hL.1 B378 | exact Owb.of_eq (hL.2 1 (by decide) (by decide) (by decide)) B378 | exact Owb.of_eq (congrArg FD.p1 (put_skip (by omega))) B378), (by first | exact Owb.of_eq hL.1 B379 | exact Owb.of_eq (hL.2 2 (by decide) (by decide) (by decide)) B379 | exact Owb.of_eq (congrArg FD.p2 (put_skip (by omega))) B379), B380, gr382, gr252, gr253, ap383, ap384, ap385, ap386, ap387, ap388, ap389, ap390, ap391, ap263, ap264, ap265, ap266, ap267, ap268, ap269, ap270, ap271, ap272, ap273, ap274, ap275, ap276, ap277⟩
    ·skip
     have hsz : (sizeF f 1).1 ≠ 0 := size_two (by omega)
     have hsp := size_pos (size_some hsz)
     have hL := @put_line f 1 x y b i (by decide) (by decide) hsz ⟨by omega, by omega⟩
     have hin2 : within (sizeF f 1).1 (sizeF f 1).2 ((sizeF f 1).1 - 1) (nearI y + (i : Int)) := ⟨by omega, by omega, by omega, by omega⟩
     have hc := within_cell hin2
     have hls := put_lens x y b (4 * i) hsz
     have hp0 : (f.pl 0).length = f.p0.length := rfl
     have hp1 : (f.pl 1).length = f.p1.length := rfl
     have hp2 : (f.pl 2).length = f.p2.length := rfl
     refine wq_tail 11 [some 41, some 42, some 43, some 44, some 45, some 46, some 47, some 48, some 49, some 50, some 51] [Pd.eq (iv 1), Pd.eq (pt p101 2), Pd.eq (pt p101 3), Pd.eq v57, Pd.eq (iv ((sizeF f 1).1)), Pd.eq (iv ((nearI y) + ((i : Nat) : Int))), Pd.eq (subV v57 ((((nearI y) + ((i : Nat) : Int)) * ((sizeF f 1).1)).toNat) ((((nearI y) + ((i : Nat) : Int)) * ((sizeF f 1).1) + ((sizeF f 1).1)).toNat) ((((nearI y) + ((i : Nat) : Int)) * ((sizeF f 1).1) + ((sizeF f 1).1)).toNat)), Pd.eq (iv (nearI x)), Pd.eq (blkV b), Pd.eq (iv ((i : Nat) : Int)), Pd.eq (.agg #[.int .u8 ((byteI (b (i * 4)) : Nat) : Int), .int .u8 ((byteI (b (i * 4 + 1)) : Nat) : Int), .int .u8 ((byteI (b (i * 4 + 2)) : Nat) : Int), .int .u8 ((byteI (b (i * 4 + 3)) : Nat) : Int)])] (by kernel_rfl) (by kernel_rfl) (by kernel_rfl) ?_ ?_
     ·refine stepsF_cons ?_ ?_
      ·refine StepF.one rfl fun F_ w_ hR hout hD => ?_
       exact (y_mov rfl ((hout 1 rfl (by decide)).trans s322) ⟨rfl, Kept.refl _ _⟩)
      refine stepsF_cons ?_ ?_
      ·refine StepF.one rfl fun F_ w_ hR hout hD => ?_
       exact (y_fieldR (n := 3) rfl ((hout 11 rfl (by decide)).trans s327) Tryz.underlying29 rfl (by kernel_rfl) (by decide) rfl ⟨rfl, Kept.refl _ _⟩)
      refine stepsF_cons ?_ ?_
      ·refine StepF.one rfl fun F_ w_ hR hout hD => ?_
       have g42 : F_ 42 = pt p101 2 := (hD.get 0 rfl rfl rfl)
       have g41 : F_ 41 = iv 1 := (hD.get 1 rfl rfl rfl)
       exact (y_atR 1 (s := 1) rfl g42 g41 (by omega) Tryz.underlying27 (by omega) (by kernel_rfl) (by omega) ⟨rfl, Kept.refl _ _⟩)
      refine stepsF_cons ?_ ?_
      ·refine StepF.one rfl fun F_ w_ hR hout hD => ?_
       have g43 : F_ 43 = pt p101 3 := (hD.get 0 rfl rfl rfl)
       exact (y_ld_stc rfl g43 Tryz.underlying26 (B250.all hR id) rfl rfl ⟨rfl, Kept.refl _ _⟩)
      refine stepsF_cons ?_ ?_
      ·refine StepF.one rfl fun F_ w_ hR hout hD => ?_
       exact (y_mov rfl ((hout 12 rfl (by decide)).trans s328) ⟨rfl, Kept.refl _ _⟩)
      refine stepsF_cons ?_ ?_
      ·refine StepF.one rfl fun F_ w_ hR hout hD => ?_
       exact (y_mov rfl ((hout 15 rfl (by decide)).trans s333) ⟨rfl, Kept.refl _ _⟩)
      refine stepsF_cons ?_ ?_
      ·refine StepF.one rfl fun F_ w_ hR hout hD => ?_
       have g44 : F_ 44 = v57 := (hD.get 0 rfl rfl rfl)
       have g45 : F_ 45 = iv ((sizeF f 1).1) := (hD.get 1 rfl rfl rfl)
       have g46 : F_ 46 = iv ((nearI y) + ((i : Nat) : Int)) := (hD.get 2 rfl rfl rfl)
       exact (y_cs rfl rfl rfl (fun _ _ => by kernel_rfl) (ev_func _) (vsC g44 (vsC g45 (vsC g46 vsN))) (ps_row v57 ((putTo f 1 x y b (4 * i)).p1) ((sizeF f 1).1) ((nearI y) + ((i : Nat) : Int)) T224 _ (by omega) (by omega) (by omega) (by omega) (B248.all hR Apart.none).byt ) (fun e_ w_ h_ => ⟨_, h_.1, rfl, h_.2⟩))
      refine stepsF_cons ?_ ?_
      ·refine StepF.one rfl fun F_ w_ hR hout hD => ?_
       exact (y_mov rfl ((hout 2 rfl (by decide)).trans s323) ⟨rfl, Kept.refl _ _⟩)
      refine stepsF_cons ?_ ?_
      ·refine StepF.one rfl fun F_ w_ hR hout hD => ?_
       exact (y_load_blk blkT_block rfl ((hout 9 rfl (by decide)).trans s325) (B245.all hR id) ⟨rfl, Kept.refl _ _⟩)
      refine stepsF_cons ?_ ?_
      ·refine StepF.one rfl fun F_ w_ hR hout hD => ?_
       exact (y_mov rfl ((hout 14 rfl (by decide)).trans s332) ⟨rfl, Kept.refl _ _⟩)
      refine stepsF_cons ?_ ?_
      ·refine StepF.one rfl fun F_ w_ hR hout hD => ?_
       have g49 : F_ 49 = blkV b := (hD.get 0 rfl rfl rfl)
       have g50 : F_ 50 = iv ((i : Nat) : Int) := (hD.get 1 rfl rfl rfl)
       exact (y_cs rfl rfl rfl (fun _ _ => by kernel_rfl) (ev_func _) (vsC g49 (vsC g50 vsN)) (ps_line b i  _ (by omega)  ) (fun e_ w_ h_ => ⟨_, h_.1, rfl, h_.2⟩))
      exact stepsF_nil
     intro v416 F417 w418 k419 G420 hF421
     have B423 := B241.all k419 Apart.none
     have B424 := B242.all k419 Apart.none
     have B425 := B243.all k419 Apart.none
     have B426 := B244.all k419 id
     have B427 := B245.all k419 id
     have B428 := B246.all k419 id
     have B429 := B247.all k419 Apart.none
     have B430 := B248.all k419 Apart.none
     have B431 := B249.all k419 Apart.none
     have B432 := B250.all k419 id
     have K433 := K228.tr k419
     obtain ⟨s434, s435, s436, s437, s438, s439, s440, s441, s442, s443⟩ := t10 hF421 1 s322 2 s323 3 s324 9 s325 10 s326 11 s327 12 s328 13 s329 55 s330 28 s331
     have s444 : F417 47 = subV v57 ((((nearI y) + ((i : Nat) : Int)) * ((sizeF f 1).1)).toNat) ((((nearI y) + ((i : Nat) : Int)) * ((sizeF f 1).1) + ((sizeF f 1).1)).toNat) ((((nearI y) + ((i : Nat) : Int)) * ((sizeF f 1).1) + ((sizeF f 1).1)).toNat) := (hF421 47).trans (G420 6 (by decide))
     have s445 : F417 48 = iv (nearI x) := (hF421 48).trans (G420 7 (by decide))
     have s446 : F417 51 = .agg #[.int .u8 ((byteI (b (i * 4)) : Nat) : Int), .int .u8 ((byteI (b (i * 4 + 1)) : Nat) : Int), .int .u8 ((byteI (b (i * 4 + 2)) : Nat) : Int), .int .u8 ((byteI (b (i * 4 + 3)) : Nat) : Int)] := (hF421 51).trans (G420 10 (by decide))
     clear G420 hF421
     refine wl_call (R := fun v_ w_ => ∃ (T449 : Nat → Prop), .tuple #[] = v_ ∧ Kept T224 w418 w_ ∧ (Owb w_ T449 v57 (layF ((putTo f 1 x y b (4 * i)).p1) ((((nearI y) + ((i : Nat) : Int)) * ((sizeF f 1).1)).toNat) ((((nearI y) + ((i : Nat) : Int)) * ((sizeF f 1).1) + ((sizeF f 1).1)).toNat) (nearI x) [(byteI (b (i * 4))), (byteI (b (i * 4 + 1))), (byteI (b (i * 4 + 2))), (byteI (b (i * 4 + 3)))]) ∧ Grew w418 T224 T449)) rfl rfl (y_cs rfl rfl rfl (fun _ _ => by kernel_rfl) (ev_func _) (vsC s444 (vsC s445 (vsC s446 vsN))) (ps_lay v57 ((putTo f 1 x y b (4 * i)).p1) ((((nearI y) + ((i : Nat) : Int)) * ((sizeF f 1).1)).toNat) ((((nearI y) + ((i : Nat) : Int)) * ((sizeF f 1).1) + ((sizeF f 1).1)).toNat) (nearI x) (byteI (b (i * 4))) (byteI (b (i * 4 + 1))) (byteI (b (i * 4 + 2))) (byteI (b (i * 4 + 3))) T224 _ (by omega) (by omega) (by omega) (byteI_lt _) (byteI_lt _) (byteI_lt _) (byteI_lt _) B430 ) (fun e_ w_ h_ => by obtain ⟨T449_, he_, hr_⟩ := h_; exact ⟨_, he_, T449_, rfl, hr_⟩)) ?_
     rintro _ w447 ⟨T449, rfl, k448, ⟨B450, g451⟩⟩
     have B452 := B423.all k448 ap263.symm
     have B453 := B424.all k448 ap264.symm
     have B454 := B425.all k448 ap265.symm
     have B455 := B426.all k448 (ap266.symm p1 rfl)
     have B456 := B427.all k448 (ap267.symm p14 rfl)
     have B457 := B428.all k448 (ap268.symm p30 rfl)
     have B458 := B429.all k448 ap260
     have B459 := B431.all k448 ap269.symm
     have B460 := B432.all k448 (ap270.symm p101 rfl)
     have K461 := K433.trans k448 (fun i hi x => ((Grew.ok (S := fun _ => False) gr252 noB_le) i hi x))
     have gr462 := gr252.trans K433 g451
     have ap463 : Apart T449 T_f0 := ap263.grew g451 B423.live
     have ap464 : Apart T449 T_f1 := ap264.grew g451 B424.live
     have ap465 : Apart T449 T_f2 := ap265.grew g451 B425.live
     have ap466 : Apart T449 (onB p1) := ap266.grew g451 (onB_live B426.lt)
     have ap467 : Apart T449 (onB p14) := ap267.grew g451 (onB_live B427.lt)
     have ap468 : Apart T449 (onB p30) := ap268.grew g451 (onB_live B428.lt)
     have ap469 : Apart T449 T223 := (ap260.symm).grew g451 B429.live
     have ap470 : Apart T449 T225 := ap269.grew g451 B431.live
     have ap471 : Apart T449 (onB p101) := ap270.grew g451 (onB_live B432.lt)
     refine wl_nil fun F472 hF473 => ?_
     obtain ⟨s474, s475, s476, s477, s478, s479, s480, s481, s482, s483⟩ := t10 hF473 1 s434 2 s435 3 s436 9 s437 10 s438 11 s439 12 s440 13 s441 55 s442 28 s443
     clear hF473
     refine in_normal (then_normal (wq_region (wl_v (iv ((i + 1 : Nat) : Int)) rfl rfl (y_add rfl s483 rfl (i64_n (by omega) (by omega)) rr) (wl_v (iv ((i + 1 : Nat) : Int)) rfl rfl (y_mov rfl rfl rr) (wl_nil fun F484 hF485 => ?_)))))
     obtain ⟨s486, s487, s488, s489, s490, s491, s492, s493, s494⟩ := t9 hF485 1 s474 2 s475 3 s476 9 s477 10 s478 11 s479 12 s480 13 s481 55 s482
     have s495 : F484 28 = iv ((i + 1 : Nat) : Int) := (hF485 28).trans rfl
     clear hF485
     exact then_normal ⟨(4 - (i + 1)), by omega, i + 1, T223, T449, T225, by omega, rfl, s486, s487, s488, s489, s490, s491, s492, s493, s494, s495, K461, B452, B453, B454, B455, B456, B457, (by first | exact Owb.of_eq hL.1 B458 | exact Owb.of_eq (hL.2 0 (by decide) (by decide) (by decide)) B458 | exact Owb.of_eq (congrArg FD.p0 (put_skip (by omega))) B458), (by first | exact Owb.of_eq hL.1 B450 | exact Owb.of_eq (hL.2 1 (by decide) (by decide) (by decide)) B450 | exact Owb.of_eq (congrArg FD.p1 (put_skip (by omega))) B450), (by first | exact Owb.of_eq hL.1 B459 | exact Owb.of_eq (hL.2 2 (by decide) (by decide) (by decide)) B459 | exact Owb.of_eq (congrArg FD.p2 (put_skip (by omega))) B459), B460, gr251, gr462, gr253, ap254, ap255, ap256, ap257, ap258, ap259, ap469.symm, ap261, ap262, ap463, ap464, ap465, ap466, ap467, ap468, ap470, ap471, ap271, ap272, ap273, ap274, ap275, ap276, ap277⟩
    ·skip
     have hsz : (sizeF f 2).1 ≠ 0 := size_two (by omega)
     have hsp := size_pos (size_some hsz)
     have hL := @put_line f 2 x y b i (by decide) (by decide) hsz ⟨by omega, by omega⟩
     have hin2 : within (sizeF f 2).1 (sizeF f 2).2 ((sizeF f 2).1 - 1) (nearI y + (i : Int)) := ⟨by omega, by omega, by omega, by omega⟩
     have hc := within_cell hin2
     have hls := put_lens x y b (4 * i) hsz
     have hp0 : (f.pl 0).length = f.p0.length := rfl
     have hp1 : (f.pl 1).length = f.p1.length := rfl
     have hp2 : (f.pl 2).length = f.p2.length := rfl
     refine wq_tail 11 [some 41, some 42, some 43, some 44, some 45, some 46, some 47, some 48, some 49, some 50, some 51] [Pd.eq (iv 2), Pd.eq (pt p101 2), Pd.eq (pt p101 4), Pd.eq v58, Pd.eq (iv ((sizeF f 2).1)), Pd.eq (iv ((nearI y) + ((i : Nat) : Int))), Pd.eq (subV v58 ((((nearI y) + ((i : Nat) : Int)) * ((sizeF f 2).1)).toNat) ((((nearI y) + ((i : Nat) : Int)) * ((sizeF f 2).1) + ((sizeF f 2).1)).toNat) ((((nearI y) + ((i : Nat) : Int)) * ((sizeF f 2).1) + ((sizeF f 2).1)).toNat)), Pd.eq (iv (nearI x)), Pd.eq (blkV b), Pd.eq (iv ((i : Nat) : Int)), Pd.eq (.agg #[.int .u8 ((byteI (b (i * 4)) : Nat) : Int), .int .u8 ((byteI (b (i * 4 + 1)) : Nat) : Int), .int .u8 ((byteI (b (i * 4 + 2)) : Nat) : Int), .int .u8 ((byteI (b (i * 4 + 3)) : Nat) : Int)])] (by kernel_rfl) (by kernel_rfl) (by kernel_rfl) ?_ ?_
     ·refine stepsF_cons ?_ ?_
      ·refine StepF.one rfl fun F_ w_ hR hout hD => ?_
       exact (y_mov rfl ((hout 1 rfl (by decide)).trans s322) ⟨rfl, Kept.refl _ _⟩)
      refine stepsF_cons ?_ ?_
      ·refine StepF.one rfl fun F_ w_ hR hout hD => ?_
       exact (y_fieldR (n := 3) rfl ((hout 11 rfl (by decide)).trans s327) Tryz.underlying29 rfl (by kernel_rfl) (by decide) rfl ⟨rfl, Kept.refl _ _⟩)
      refine stepsF_cons ?_ ?_
      ·refine StepF.one rfl fun F_ w_ hR hout hD => ?_
       have g42 : F_ 42 = pt p101 2 := (hD.get 0 rfl rfl rfl)
       have g41 : F_ 41 = iv 2 := (hD.get 1 rfl rfl rfl)
       exact (y_atR 2 (s := 1) rfl g42 g41 (by omega) Tryz.underlying27 (by omega) (by kernel_rfl) (by omega) ⟨rfl, Kept.refl _ _⟩)
      refine stepsF_cons ?_ ?_
      ·refine StepF.one rfl fun F_ w_ hR hout hD => ?_
       have g43 : F_ 43 = pt p101 4 := (hD.get 0 rfl rfl rfl)
       exact (y_ld_stc rfl g43 Tryz.underlying26 (B250.all hR id) rfl rfl ⟨rfl, Kept.refl _ _⟩)
      refine stepsF_cons ?_ ?_
      ·refine StepF.one rfl fun F_ w_ hR hout hD => ?_
       exact (y_mov rfl ((hout 12 rfl (by decide)).trans s328) ⟨rfl, Kept.refl _ _⟩)
      refine stepsF_cons ?_ ?_
      ·refine StepF.one rfl fun F_ w_ hR hout hD => ?_
       exact (y_mov rfl ((hout 15 rfl (by decide)).trans s333) ⟨rfl, Kept.refl _ _⟩)
      refine stepsF_cons ?_ ?_
      ·refine StepF.one rfl fun F_ w_ hR hout hD => ?_
       have g44 : F_ 44 = v58 := (hD.get 0 rfl rfl rfl)
       have g45 : F_ 45 = iv ((sizeF f 2).1) := (hD.get 1 rfl rfl rfl)
       have g46 : F_ 46 = iv ((nearI y) + ((i : Nat) : Int)) := (hD.get 2 rfl rfl rfl)
       exact (y_cs rfl rfl rfl (fun _ _ => by kernel_rfl) (ev_func _) (vsC g44 (vsC g45 (vsC g46 vsN))) (ps_row v58 ((putTo f 2 x y b (4 * i)).p2) ((sizeF f 2).1) ((nearI y) + ((i : Nat) : Int)) T225 _ (by omega) (by omega) (by omega) (by omega) (B249.all hR Apart.none).byt ) (fun e_ w_ h_ => ⟨_, h_.1, rfl, h_.2⟩))
      refine stepsF_cons ?_ ?_
      ·refine StepF.one rfl fun F_ w_ hR hout hD => ?_
       exact (y_mov rfl ((hout 2 rfl (by decide)).trans s323) ⟨rfl, Kept.refl _ _⟩)
      refine stepsF_cons ?_ ?_
      ·refine StepF.one rfl fun F_ w_ hR hout hD => ?_
       exact (y_load_blk blkT_block rfl ((hout 9 rfl (by decide)).trans s325) (B245.all hR id) ⟨rfl, Kept.refl _ _⟩)
      refine stepsF_cons ?_ ?_
      ·refine StepF.one rfl fun F_ w_ hR hout hD => ?_
       exact (y_mov rfl ((hout 14 rfl (by decide)).trans s332) ⟨rfl, Kept.refl _ _⟩)
      refine stepsF_cons ?_ ?_
      ·refine StepF.one rfl fun F_ w_ hR hout hD => ?_
       have g49 : F_ 49 = blkV b := (hD.get 0 rfl rfl rfl)
       have g50 : F_ 50 = iv ((i : Nat) : Int) := (hD.get 1 rfl rfl rfl)
       exact (y_cs rfl rfl rfl (fun _ _ => by kernel_rfl) (ev_func _) (vsC g49 (vsC g50 vsN)) (ps_line b i  _ (by omega)  ) (fun e_ w_ h_ => ⟨_, h_.1, rfl, h_.2⟩))
      exact stepsF_nil
     intro v496 F497 w498 k499 G500 hF501
     have B503 := B241.all k499 Apart.none
     have B504 := B242.all k499 Apart.none
     have B505 := B243.all k499 Apart.none
     have B506 := B244.all k499 id
     have B507 := B245.all k499 id
     have B508 := B246.all k499 id
     have B509 := B247.all k499 Apart.none
     have B510 := B248.all k499 Apart.none
     have B511 := B249.all k499 Apart.none
     have B512 := B250.all k499 id
     have K513 := K228.tr k499
     obtain ⟨s514, s515, s516, s517, s518, s519, s520, s521, s522, s523⟩ := t10 hF501 1 s322 2 s323 3 s324 9 s325 10 s326 11 s327 12 s328 13 s329 55 s330 28 s331
     have s524 : F497 47 = subV v58 ((((nearI y) + ((i : Nat) : Int)) * ((sizeF f 2).1)).toNat) ((((nearI y) + ((i : Nat) : Int)) * ((sizeF f 2).1) + ((sizeF f 2).1)).toNat) ((((nearI y) + ((i : Nat) : Int)) * ((sizeF f 2).1) + ((sizeF f 2).1)).toNat) := (hF501 47).trans (G500 6 (by decide))
     have s525 : F497 48 = iv (nearI x) := (hF501 48).trans (G500 7 (by decide))
     have s526 : F497 51 = .agg #[.int .u8 ((byteI (b (i * 4)) : Nat) : Int), .int .u8 ((byteI (b (i * 4 + 1)) : Nat) : Int), .int .u8 ((byteI (b (i * 4 + 2)) : Nat) : Int), .int .u8 ((byteI (b (i * 4 + 3)) : Nat) : Int)] := (hF501 51).trans (G500 10 (by decide))
     clear G500 hF501
     refine wl_call (R := fun v_ w_ => ∃ (T529 : Nat → Prop), .tuple #[] = v_ ∧ Kept T225 w498 w_ ∧ (Owb w_ T529 v58 (layF ((putTo f 2 x y b (4 * i)).p2) ((((nearI y) + ((i : Nat) : Int)) * ((sizeF f 2).1)).toNat) ((((nearI y) + ((i : Nat) : Int)) * ((sizeF f 2).1) + ((sizeF f 2).1)).toNat) (nearI x) [(byteI (b (i * 4))), (byteI (b (i * 4 + 1))), (byteI (b (i * 4 + 2))), (byteI (b (i * 4 + 3)))]) ∧ Grew w498 T225 T529)) rfl rfl (y_cs rfl rfl rfl (fun _ _ => by kernel_rfl) (ev_func _) (vsC s524 (vsC s525 (vsC s526 vsN))) (ps_lay v58 ((putTo f 2 x y b (4 * i)).p2) ((((nearI y) + ((i : Nat) : Int)) * ((sizeF f 2).1)).toNat) ((((nearI y) + ((i : Nat) : Int)) * ((sizeF f 2).1) + ((sizeF f 2).1)).toNat) (nearI x) (byteI (b (i * 4))) (byteI (b (i * 4 + 1))) (byteI (b (i * 4 + 2))) (byteI (b (i * 4 + 3))) T225 _ (by omega) (by omega) (by omega) (byteI_lt _) (byteI_lt _) (byteI_lt _) (byteI_lt _) B511 ) (fun e_ w_ h_ => by obtain ⟨T529_, he_, hr_⟩ := h_; exact ⟨_, he_, T529_, rfl, hr_⟩)) ?_
     rintro _ w527 ⟨T529, rfl, k528, ⟨B530, g531⟩⟩
     have B532 := B503.all k528 ap271.symm
     have B533 := B504.all k528 ap272.symm
     have B534 := B505.all k528 ap273.symm
     have B535 := B506.all k528 (ap274.symm p1 rfl)
     have B536 := B507.all k528 (ap275.symm p14 rfl)
     have B537 := B508.all k528 (ap276.symm p30 rfl)
     have B538 := B509.all k528 ap261
     have B539 := B510.all k528 ap269
     have B540 := B512.all k528 (ap277.symm p101 rfl)
     have K541 := K513.trans k528 (fun i hi x => ((Grew.ok (S := fun _ => False) gr253 noB_le) i hi x))
     have gr542 := gr253.trans K513 g531
     have ap543 : Apart T529 T_f0 := ap271.grew g531 B503.live
     have ap544 : Apart T529 T_f1 := ap272.grew g531 B504.live
     have ap545 : Apart T529 T_f2 := ap273.grew g531 B505.live
     have ap546 : Apart T529 (onB p1) := ap274.grew g531 (onB_live B506.lt)
     have ap547 : Apart T529 (onB p14) := ap275.grew g531 (onB_live B507.lt)
     have ap548 : Apart T529 (onB p30) := ap276.grew g531 (onB_live B508.lt)
     have ap549 : Apart T529 T223 := (ap261.symm).grew g531 B509.live
     have ap550 : Apart T529 T224 := (ap269.symm).grew g531 B510.live
     have ap551 : Apart T529 (onB p101) := ap277.grew g531 (onB_live B512.lt)
     refine wl_nil fun F552 hF553 => ?_
     obtain ⟨s554, s555, s556, s557, s558, s559, s560, s561, s562, s563⟩ := t10 hF553 1 s514 2 s515 3 s516 9 s517 10 s518 11 s519 12 s520 13 s521 55 s522 28 s523
     clear hF553
     refine in_normal (then_normal (wq_region (wl_v (iv ((i + 1 : Nat) : Int)) rfl rfl (y_add rfl s563 rfl (i64_n (by omega) (by omega)) rr) (wl_v (iv ((i + 1 : Nat) : Int)) rfl rfl (y_mov rfl rfl rr) (wl_nil fun F564 hF565 => ?_)))))
     obtain ⟨s566, s567, s568, s569, s570, s571, s572, s573, s574⟩ := t9 hF565 1 s554 2 s555 3 s556 9 s557 10 s558 11 s559 12 s560 13 s561 55 s562
     have s575 : F564 28 = iv ((i + 1 : Nat) : Int) := (hF565 28).trans rfl
     clear hF565
     exact then_normal ⟨(4 - (i + 1)), by omega, i + 1, T223, T224, T529, by omega, rfl, s566, s567, s568, s569, s570, s571, s572, s573, s574, s575, K541, B532, B533, B534, B535, B536, B537, (by first | exact Owb.of_eq hL.1 B538 | exact Owb.of_eq (hL.2 0 (by decide) (by decide) (by decide)) B538 | exact Owb.of_eq (congrArg FD.p0 (put_skip (by omega))) B538), (by first | exact Owb.of_eq hL.1 B539 | exact Owb.of_eq (hL.2 1 (by decide) (by decide) (by decide)) B539 | exact Owb.of_eq (congrArg FD.p1 (put_skip (by omega))) B539), (by first | exact Owb.of_eq hL.1 B530 | exact Owb.of_eq (hL.2 2 (by decide) (by decide) (by decide)) B530 | exact Owb.of_eq (congrArg FD.p2 (put_skip (by omega))) B530), B540, gr251, gr252, gr542, ap254, ap255, ap256, ap257, ap258, ap259, ap260, ap549.symm, ap262, ap263, ap264, ap265, ap266, ap267, ap268, ap550.symm, ap270, ap543, ap544, ap545, ap546, ap547, ap548, ap551⟩
   ·replace c335 := of_decide_eq_false c335
    refine wq_skip (in_normal (then_normal (wq_region (wl_v (iv ((i + 1 : Nat) : Int)) rfl rfl (y_add rfl s331 rfl (i64_n (by omega) (by omega)) rr) (wl_v (iv ((i + 1 : Nat) : Int)) rfl rfl (y_mov rfl rfl rr) (wl_nil fun F576 hF577 => ?_))))))
    obtain ⟨s578, s579, s580, s581, s582, s583, s584, s585, s586⟩ := t9 hF577 1 s322 2 s323 3 s324 9 s325 10 s326 11 s327 12 s328 13 s329 55 s330
    have s587 : F576 28 = iv ((i + 1 : Nat) : Int) := (hF577 28).trans rfl
    clear hF577
    exact then_normal ⟨(4 - (i + 1)), by omega, i + 1, T223, T224, T225, by omega, rfl, s578, s579, s580, s581, s582, s583, s584, s585, s586, s587, K228, B241, B242, B243, B244, B245, B246, (by first | exact Owb.of_eq hL.1 B247 | exact Owb.of_eq (hL.2 0 (by decide) (by decide) (by decide)) B247 | exact Owb.of_eq (congrArg FD.p0 (put_skip (by omega))) B247), (by first | exact Owb.of_eq hL.1 B248 | exact Owb.of_eq (hL.2 1 (by decide) (by decide) (by decide)) B248 | exact Owb.of_eq (congrArg FD.p1 (put_skip (by omega))) B248), (by first | exact Owb.of_eq hL.1 B249 | exact Owb.of_eq (hL.2 2 (by decide) (by decide) (by decide)) B249 | exact Owb.of_eq (congrArg FD.p2 (put_skip (by omega))) B249), B250, gr251, gr252, gr253, ap254, ap255, ap256, ap257, ap258, ap259, ap260, ap261, ap262, ap263, ap264, ap265, ap266, ap267, ap268, ap269, ap270, ap271, ap272, ap273, ap274, ap275, ap276, ap277⟩
  ·skip
   refine wq_region (wl_mv rfl rfl rfl s318 (wl_v (.bool false) rfl rfl (y_geq rfl rfl rfl (decide_eq_false d319) rr) (wl_v (.bool false) rfl rfl (y_mov rfl rfl rr) (wl_unless 2 true 36 rfl rfl rfl (Or.inl rfl) rfl (wl_unless 2 true 36 rfl rfl rfl (Or.inl rfl) rfl (wl_unless 2 true 36 rfl rfl rfl (Or.inl rfl) rfl (wl_v (.bool false) rfl rfl (y_pickF rfl rfl rfl rr) (wl_nil fun F588 hF589 => ?_))))))))
   obtain ⟨s590, s591, s592, s593, s594, s595, s596, s597, s598, s599⟩ := t10 hF589 1 s307 2 s308 3 s309 9 s310 10 s311 11 s312 12 s313 13 s314 55 s315 28 s316
   have s602 : F588 40 = .bool false := (hF589 40).trans rfl
   clear hF589
   refine then_normal ?_
   refine wq_cond (t := false) s602 (fun e => by cases e) (fun _ => ?_)
   refine wq_skip (in_normal (then_normal (wq_region (wl_v (iv ((i + 1 : Nat) : Int)) rfl rfl (y_add rfl s599 rfl (i64_n (by omega) (by omega)) rr) (wl_v (iv ((i + 1 : Nat) : Int)) rfl rfl (y_mov rfl rfl rr) (wl_nil fun F603 hF604 => ?_))))))
   obtain ⟨s605, s606, s607, s608, s609, s610, s611, s612, s613⟩ := t9 hF604 1 s590 2 s591 3 s592 9 s593 10 s594 11 s595 12 s596 13 s597 55 s598
   have s614 : F603 28 = iv ((i + 1 : Nat) : Int) := (hF604 28).trans rfl
   clear hF604
   exact then_normal ⟨(4 - (i + 1)), by omega, i + 1, T223, T224, T225, by omega, rfl, s605, s606, s607, s608, s609, s610, s611, s612, s613, s614, K228, B241, B242, B243, B244, B245, B246, (by first | exact Owb.of_eq hL.1 B247 | exact Owb.of_eq (hL.2 0 (by decide) (by decide) (by decide)) B247 | exact Owb.of_eq (congrArg FD.p0 (put_skip (by omega))) B247), (by first | exact Owb.of_eq hL.1 B248 | exact Owb.of_eq (hL.2 1 (by decide) (by decide) (by decide)) B248 | exact Owb.of_eq (congrArg FD.p1 (put_skip (by omega))) B248), (by first | exact Owb.of_eq hL.1 B249 | exact Owb.of_eq (hL.2 2 (by decide) (by decide) (by decide)) B249 | exact Owb.of_eq (congrArg FD.p2 (put_skip (by omega))) B249), B250, gr251, gr252, gr253, ap254, ap255, ap256, ap257, ap258, ap259, ap260, ap261, ap262, ap263, ap264, ap265, ap266, ap267, ap268, ap269, ap270, ap271, ap272, ap273, ap274, ap275, ap276, ap277⟩
 ·replace c291 := of_decide_eq_false c291
  refine wq_exit (then_exit (then_exit ?_))
  have l615 : 4 = i := by omega
  subst l615
  refine in_here (then_normal (wq_seq (wq_region (wl_v (.agg #[iv ((copyF f).W), iv ((copyF f).H), v56, v57, v58]) rfl rfl (y_load_stc stcT_frame rfl s285 B250 rr) (wl_store_stc (us := [iv ((copyF f).W), iv ((copyF f).H), v56, v57, v58]) stcT_frame rfl rfl rfl s284 rfl B246 rfl (oneI rfl (oneI rfl (oneI B247.one (oneI B248.one (oneI B249.one oneN))))) fun w616 B617 k618 => ?_)))))
  have B624 := B247.all k618 ap259
  have B625 := B248.all k618 ap268
  have B626 := B249.all k618 ap276
  have K628 := K228.trans k618 (Grew.ok (S := fun _ => False) gr35 noB_le)
  refine wl_nil fun F629 hF630 => ?_
  obtain ⟨s631, s632⟩ := t2 hF630 10 s284 55 s288
  clear hF630
  refine then_normal (wq_ret ?_)
  exact end_stc (vs := [iv ((copyF f).W), iv ((copyF f).H), v56, v57, v58]) stcT_frame s632 rfl rfl s631 B617 ⟨v56, T223, v57, T224, v58, T225, (by rw [show putFr f p x y b = putTo f p x y b 16 from rfl, (put_side f p x y b 16).1, (put_side f p x y b 16).2.1]), K628, ⟨B624, gr251⟩, ⟨B625, gr252⟩, ⟨B626, gr253⟩, ap260, ap261, ap269⟩
end Go.Proofs.YtknjpdcpmpfklaaGreatDoor
set_option maxRecDepth 100000
namespace Go.Proofs.YtknjpdcpmpfklaaGreatDoor
open Go.RowKit
section
variable {N : Nat} {Q : (Exit → (Nat → Value) → World → Prop)} {F : Nat → Value} {w : World} {P : Program}
def StepR (N : Nat) (P : Program) (R : World → World → Prop) (D : List (Option Tmp)) (G : Nat → Value → World → Prop) (F0 : Nat → Value) (w0 : World) (i : Nat) (o : Oper) : Prop :=
  ∀ (F : Nat → Value) (w : World), R w0 w → (∀ t, Nat.blt t N = true → some t ∉ D → F t = F0 t) → DepsF D G F w o.after.toList → o.guard = none ∧ Yields P (ev F) o w (fun v w' => G i v w' ∧ R w w')
def StepsR (N : Nat) (P : Program) (R : World → World → Prop) (D : List (Option Tmp)) (G : Nat → Value → World → Prop) (F0 : Nat → Value) (w0 : World) : Nat → List Oper → Prop
  | _, [] => True
  | i, o :: r => StepR N P R D G F0 w0 i o ∧ StepsR N P R D G F0 w0 (i + 1) r
theorem StepR.step {R : World → World → Prop} {D : List (Option Tmp)} {G : Nat → Value → World → Prop} {w0 : World} {i : Nat} {o : Oper} {a0 : Act} (ha : Fr N F a0) (h : StepR N P R D G F w0 i o) : Step P R D G a0 w0 i o := by
  intro a w hR hout hD
  have h1 := h (fun t => a.tmps.getD t undef) w hR (fun t hb ht => by rw [← ha.at' t hb]; exact hout t ht) hD.toF
  rw [← eval_ev a] at h1
  unfold goes
  rw [h1.1]
  exact ⟨fun _ => h1.2, fun e => by cases e⟩
theorem StepsR.steps {R : World → World → Prop} {D : List (Option Tmp)} {G : Nat → Value → World → Prop} {w0 : World} {a0 : Act} (ha : Fr N F a0) : ∀ {os : List Oper} {i : Nat}, StepsR N P R D G F w0 i os → Steps P R D G a0 w0 i os := by
  intro os
  induction os with
  | nil => intro i _; exact trivial
  | cons o r ih => intro i h; exact ⟨h.1.step ha, ih h.2⟩
theorem stepsR_nil {R : World → World → Prop} {D : List (Option Tmp)} {G : Nat → Value → World → Prop} {F0 : Nat → Value} {w0 : World} {i : Nat} : StepsR N P R D G F0 w0 i [] := trivial
theorem stepsR_cons {R : World → World → Prop} {D : List (Option Tmp)} {G : Nat → Value → World → Prop} {F0 : Nat → Value} {w0 : World} {i : Nat} {o : Oper} {r : List Oper} (hg : o.guard = none)
    (h : ∀ (F : Nat → Value) (w : World), R w0 w → (∀ t, Nat.blt t N = true → some t ∉ D → F t = F0 t) → DepsF D G F w o.after.toList → Yields P (ev F) o w (fun v w' => G i v w' ∧ R w w')) (k : StepsR N P R D G F0 w0 (i + 1) r) : StepsR N P R D G F0 w0 i (o :: r) := ⟨fun F w h1 h2 h3 => ⟨hg, h F w h1 h2 h3⟩, k⟩
theorem wq_tailR {id : Nat} {ops : Array Oper} (n : Nat) (R : World → World → Prop) (D : List (Option Tmp)) (G : Nat → Value → World → Prop) (hm : P.follows .mixedOrders = true) (hta : tailed ops.toList n = true) (hpl : plain N 0 D (ops.toList.take n) = true)
    (hrf : ∀ a, R a a) (htr : ∀ a b c, R a b → R b c → R a c) (hdr : R w w.drew) (hst : ∀ i v w w', G i v w → R w w' → G i v w') (hsteps : StepsR N P R D G F w 0 (ops.toList.take n))
    (hend : ∀ (v : Nat → Value) (F' : Nat → Value) (w' : World), R w w' → (∀ i, i < n → G i (v i) w') → (∀ t, F' t = putsF v 0 D F t) → wl none P N ops Q (ops.toList.drop n) F' w') : wq none P N (.region id ops true) Q F w := by
  intro a ha
  refine wpIn_wide.2 ?_
  refine wp_region_any hm ?_
  have T := tailed_all hta
  have hno : ∀ j, (Array.replicate ops.size false).getD j false = false := by
    intro j
    by_cases h : j < ops.size <;> simp [Array.getD, h]
  refine wpAny_tail n T R D G (by rw [ha.size]; exact hpl) hrf htr hst (hsteps.steps ha) (fun v w' hk hG => hend v _ w' hk hG (fun _ => rfl) _ (putAll_fr v D 0 F a ha (plain_fits hpl))) ops.size _ (fun _ => undef) a _ ⟨rfl, by simp, rfl, hdr, fun _ _ => rfl, fun j _ hj => ?_, fun j hj => ?_⟩ ?_ ?_ ?_
  · rw [hno] at hj; cases hj
  · rw [hno] at hj; cases hj
  · intro k o _ hl; rw [hno] at hl; cases hl
  · intro j _; exact hno j
  · exact Nat.le_trans (List.countP_le_length) (by simp)
end
def repL (L : List Nat) (n k : Nat) : List Nat := L.take (0 + k) ++ ((((L.drop 0).take (n - 0)).drop 0).take (k - 0) |>.take (n - 0 - k) |> (· ++ L.drop (0 + k + min (n - 0 - k) (((((L.drop 0).take (n - 0)).drop 0).take (k - 0)).length))))
theorem repL_eq {L : List Nat} {n k : Nat} (hL : L.length = n) (hk : k ≤ n) : repL L n k = L.take k ++ (L.take (min (n - k) k) ++ L.drop (k + min (n - k) k)) := by
  unfold repL
  have e : ((((L.drop 0).take (n - 0)).drop 0).take (k - 0)) = L.take k := by simp; rw [← hL, List.take_length]
  rw [e]
  simp only [Nat.zero_add, Nat.sub_zero, List.take_take, List.length_take]
  rw [show min (n - k) (min k L.length) = min (n - k) k by omega]
theorem repL_length {L : List Nat} {n k : Nat} (hL : L.length = n) (hk : k ≤ n) : (repL L n k).length = n := by rw [repL_eq hL hk]; simp; omega
theorem repL_take {L : List Nat} {n k s : Nat} (hL : L.length = n) (hk : k ≤ n) (h : L.take k = List.replicate k s) : (repL L n k).take (k + min (n - k) k) = List.replicate (k + min (n - k) k) s := by
  rw [repL_eq hL hk, h, show L.take (min (n - k) k) = (L.take k).take (min (n - k) k) by rw [List.take_take]; congr 1; omega, h, List.take_replicate, show min (min (n - k) k) k = min (n - k) k by omega, ← List.append_assoc, List.replicate_append_replicate]
  rw [List.take_append_of_le_length (by simp), List.take_of_length_le (by simp)]
theorem repL_again {L : List Nat} {n k s : Nat} (hL : L.length = n) (hk : k ≤ n) (h : L.take k = List.replicate k s) : repL (repL L n k) n k = repL L n k := by
  have h2 := repL_length hL hk
  have h3 := repL_take hL hk h
  rw [repL_eq h2 hk]
  have e1 : (repL L n k).take k = List.replicate k s := by
    have : (repL L n k).take k = ((repL L n k).take (k + min (n - k) k)).take k := by rw [List.take_take]; congr 1; omega
    rw [this, h3, List.take_replicate]; congr 1; omega
  have e2 : (repL L n k).take (min (n - k) k) = List.replicate (min (n - k) k) s := by
    have : (repL L n k).take (min (n - k) k) = ((repL L n k).take (k + min (n - k) k)).take (min (n - k) k) := by rw [List.take_take]; congr 1; omega
    rw [this, h3, List.take_replicate]; congr 1; omega
  rw [e1, e2, ← List.append_assoc, List.replicate_append_replicate, ← h3, List.take_append_drop]
theorem rep_start {J l : List Nat} {n s : Nat} (hJ : J.length = n) (hn : 1 ≤ n) (hl : l.length = 1) (hs : l.getD 0 0 = s) : (J.take 0 ++ (l.take (n - 0) ++ J.drop (0 + min (n - 0) l.length))).length = n ∧ (J.take 0 ++ (l.take (n - 0) ++ J.drop (0 + min (n - 0) l.length))).take 1 = List.replicate 1 s := by
  obtain ⟨z, rfl⟩ : ∃ z, l = [z] := by
    match l, hl with
    | [z], _ => exact ⟨z, rfl⟩
  obtain rfl : z = s := by simpa using hs
  obtain ⟨m, rfl⟩ : ∃ m, n = m + 1 := ⟨n - 1, by omega⟩
  constructor
  · simp; omega
  · simp
theorem rep_done {L : List Nat} {n k s : Nat} (hk : k = n) (h : L.take k = List.replicate k s) : List.replicate n s = ((L.drop 0).take (n - 0)) := by
  subst hk; rw [List.drop_zero, Nat.sub_zero, h]
def RepR (T : Nat → Prop) (v : Value) (L L' : List Nat) (a b : World) : Prop := Kept T a b ∧ (Owb a T v L' → Owb b T v L') ∧ (Owb a T v L → Owb b T v L ∨ Owb b T v L')
theorem RepR.refl {T : Nat → Prop} {v : Value} {L L' : List Nat} (a : World) : RepR T v L L' a a := ⟨Kept.refl _ _, id, .inl⟩
theorem RepR.trans {T : Nat → Prop} {v : Value} {L L' : List Nat} {a b c : World} (h : RepR T v L L' a b) (k : RepR T v L L' b c) : RepR T v L L' a c :=
  ⟨h.1.trans k.1 (fun _ _ x => x), fun x => k.2.1 (h.2.1 x), fun x => (h.2.2 x).elim k.2.2 (fun y => .inr (k.2.1 y))⟩
theorem RepR.drew {T : Nat → Prop} {v : Value} {L L' : List Nat} (a : World) : RepR T v L L' a a.drew :=
  ⟨(Kept.refl _ _).drew, fun h => h.all (S := fun _ => False) (Kept.refl _ _).drew Apart.none, fun h => .inl (h.all (S := fun _ => False) (Kept.refl _ _).drew Apart.none)⟩
def RepG (T : Nat → Prop) (v : Value) (L' : List Nat) (vs : List Value) (i : Nat) (x : Value) (w : World) : Prop := x = vs.getD i undef ∧ (i = 7 → Owb w T v L')
theorem RepG.stays {T : Nat → Prop} {v : Value} {L L' : List Nat} {vs : List Value} (i : Nat) (x : Value) (w w' : World) (h : RepG T v L' vs i x w) (k : RepR T v L L' w w') : RepG T v L' vs i x w' := ⟨h.1, fun e => k.2.1 (h.2 e)⟩
theorem Byt.of_eq {w : World} {T : Nat → Prop} {v : Value} {l m : List Nat} (e : m = l) (h : Byt w T v l) : Byt w T v m := e ▸ h
theorem Owb.len {w : World} {T : Nat → Prop} {v : Value} {L : List Nat} (h : Owb w T v L) : Byt w T v L := h.byt
theorem rep_turn {ρ : Operand → Value} {o : Oper} {w w0 : World} {T : Nat → Prop} {v : Value} {L : List Nat} {n k s : Nat} {c : Call} {x y : Operand} {vs : List Value} (ho : o.op = .call c) (hc : c = { callee := .builtin .copy, args := #[x, y], argTypes := #[26, 26] }) (hx : ρ x = subV (subV v 0 n n) k (n - 0) (n - 0)) (hy : ρ y = subV (subV v 0 n n) 0 k (n - 0))
    (hL : L.length = n) (hk : k ≤ n) (ht : L.take k = List.replicate k s) (h0 : Owb w0 T v L) (hR : RepR T v L (repL L n k) w0 w) (hvs : vs.getD 7 undef = .int .i64 ((min (n - k) k : Nat) : Int)) :
    Yields Tryz.prog ρ o w (fun r w' => RepG T v (repL L n k) vs 7 r w' ∧ RepR T v L (repL L n k) w w') := by
  have main : ∀ M : List Nat, Owb w T v M → M.length = n → repL M n k = repL L n k → Yields Tryz.prog ρ o w (fun r w' => RepG T v (repL L n k) vs 7 r w' ∧ RepR T v L (repL L n k) w w') := by
    intro M hM hMl he
    have hb : Byt w T (subV (subV v 0 n n) 0 k (n - 0)) ((((M.drop 0).take (n - 0)).drop 0).take (k - 0)) := by
      have h1 : Byt w T (subV v 0 n n) ((M.drop 0).take (n - 0)) := hM.byt.sub (by omega) (by omega) (by omega) (by have := hM.byt.cap; omega)
      have hcap : capV (subV v 0 n n) = n - 0 := by
        obtain ⟨a, e⟩ := sub_len hM.byt 0 n n
        rw [e]; rfl
      exact h1.sub (by omega) (by omega) (by simp; omega) (by rw [hcap]; omega)
    obtain ⟨w', hr, h1, h2⟩ := run_copyM (off := 0 + k) (n := n - 0 - k) ho hc (by rw [hx]; exact part_sub2 hM.byt (Nat.le_refl _) (Nat.le_refl _) rfl) hy hM hb (by omega)
    have h1' : Owb w' T v (repL L n k) := by rw [← he]; exact h1
    refine y_val hr ⟨⟨?_, fun _ => h1'⟩, h2, fun _ => h1', fun _ => .inr h1'⟩
    rw [hvs]
    congr 2
    simp; omega
  rcases hR.2.2 h0 with h | h
  · exact main L h hL rfl
  · exact main _ h (repL_length hL hk) (repL_again hL hk ht)
theorem rep_cutL {ρ : Operand → Value} {o : Oper} {w w0 : World} {R : Value → World → Prop} {T : Nat → Prop} {v : Value} {L : List Nat} {n k : Nat} {x lo : Operand} (ho : o.op = .slice 26 x (some lo) none none) (hx : ρ x = subV v 0 n n) (hl : ρ lo = .int .i64 (k : Int)) (hk : k ≤ n) (h0 : Owb w0 T v L) (hR : RepR T v L (repL L n k) w0 w) (h : R (subV (subV v 0 n n) k (n - 0) (n - 0)) w) : Yields Tryz.prog ρ o w R := by
  rcases hR.2.2 h0 with hb | hb
  · exact y_cut2L k ho hx hl rfl hb.byt (by omega) h
  · exact y_cut2L k ho hx hl rfl hb.byt (by omega) h
theorem rep_cutH {ρ : Operand → Value} {o : Oper} {w w0 : World} {R : Value → World → Prop} {T : Nat → Prop} {v : Value} {L : List Nat} {n k : Nat} {x hi : Operand} (ho : o.op = .slice 26 x none (some hi) none) (hx : ρ x = subV v 0 n n) (hl : ρ hi = .int .i64 (k : Int)) (hk : k ≤ n) (h0 : Owb w0 T v L) (hR : RepR T v L (repL L n k) w0 w) (h : R (subV (subV v 0 n n) 0 k (n - 0)) w) : Yields Tryz.prog ρ o w R := by
  rcases hR.2.2 h0 with hb | hb
  · exact y_cut2H k ho hx hl rfl hb.byt (by omega) h
  · exact y_cut2H k ho hx hl rfl hb.byt (by omega) h
theorem u64_small {n : Nat} (h : n < 18446744073709551616) : IntKind.u64.wrap ((n : Nat) : Int) = ((n : Nat) : Int) := by
  unfold IntKind.wrap; simp [IntKind.signed, IntKind.bits]; omega
theorem u64_mul {a b : Nat} (h : a * b < 18446744073709551616) : IntKind.u64.wrap ((a : Int) * (b : Int)) = ((a * b : Nat) : Int) := by rw [← Int.natCast_mul]; exact u64_small h
theorem and32 {n : Nat} (h : n < 4294967296) : bits .and .u64 ((n : Nat) : Int) 4294967295 = ((n : Nat) : Int) := by
  have e := u64_and_nat n 4294967295 (by omega) (by omega)
  rw [show ((4294967295 : Nat) : Int) = 4294967295 from rfl] at e
  rw [e, show (4294967295 : Nat) = 2 ^ 32 - 1 from rfl, Nat.and_two_pow_sub_one_eq_mod, Nat.mod_eq_of_lt (by simpa using h)]
theorem shr32 {n : Nat} (h : n < 4294967296) : ((n : Nat) : Int) / 2 ^ 32 = ((0 : Nat) : Int) := by
  have : (2 : Int) ^ 32 = 4294967296 := by decide
  rw [this]; omega
end Go.Proofs.YtknjpdcpmpfklaaGreatDoor
set_option maxRecDepth 100000
namespace Go.Proofs.YtknjpdcpmpfklaaGreatDoor
open Go.RowKit
theorem ps_mul64 (x y : Nat) (w0 : World) (hx : x < 4294967296) (hy : y < 4294967296) (hxy : x * y < 4294967296) :
  Calls Tryz.prog 125 #[.int .u64 (((x : Nat) : Int)), .int .u64 (((y : Nat) : Int))] w0 fun e w' => e = .returned (.tuple #[.int .u64 (((0 : Nat) : Int)), .int .u64 (((x * y : Nat) : Int))]) ∧ Kept (fun _ => False) w0 w' := by
 refine calls_wq (args := [.int .u64 ((x : Nat) : Int), .int .u64 ((y : Nat) : Int)]) 51 Tryz.func125 rfl rfl (Nat.le_of_ble_eq_true rfl) ?_
 have K0 := Kept.refl (fun _ => False) w0
 refine wq_seq (wq_region (wl_v (.int .u64 0) rfl rfl (y_asg rfl rfl rr) (wl_v (.int .u64 0) rfl rfl (y_asg rfl rfl rr) (wl_nil fun F1 hF2 => ?_))))
 have s3 : F1 0 = .int .u64 ((x : Nat) : Int) := (hF2 0).trans rfl
 have s4 : F1 1 = .int .u64 ((y : Nat) : Int) := (hF2 1).trans rfl
 have s5 : F1 51 = undef := (hF2 51).trans rfl
 clear hF2
 refine then_normal (wq_seq (wq_region (wl_mv rfl rfl rfl s3 (wl_v (.int .u64 ((x : Nat) : Int)) rfl rfl (y_andR rfl rfl rfl (and32 hx) rr) (wl_v (.int .u64 ((x : Nat) : Int)) rfl rfl (y_asg rfl rfl rr) (wl_nil fun F6 hF7 => ?_))))))
 obtain ⟨s8, s9, s10⟩ := t3 hF7 0 s3 1 s4 51 s5
 have s11 : F6 6 = .int .u64 ((x : Nat) : Int) := (hF7 6).trans rfl
 clear hF7
 refine then_normal (wq_seq (wq_region (wl_mv rfl rfl rfl s8 (wl_v (.int .u64 ((0 : Nat) : Int)) rfl rfl (y_shrR 32 rfl rfl rfl (by decide) (shr32 hx) rr) (wl_v (.int .u64 ((0 : Nat) : Int)) rfl rfl (y_asg rfl rfl rr) (wl_nil fun F12 hF13 => ?_))))))
 obtain ⟨s14, s15, s16, s17⟩ := t4 hF13 0 s8 1 s9 51 s10 6 s11
 have s18 : F12 7 = .int .u64 ((0 : Nat) : Int) := (hF13 7).trans rfl
 clear hF13
 refine then_normal (wq_seq (wq_region (wl_mv rfl rfl rfl s15 (wl_v (.int .u64 ((y : Nat) : Int)) rfl rfl (y_andR rfl rfl rfl (and32 hy) rr) (wl_v (.int .u64 ((y : Nat) : Int)) rfl rfl (y_asg rfl rfl rr) (wl_nil fun F19 hF20 => ?_))))))
 obtain ⟨s21, s22, s23, s24, s25⟩ := t5 hF20 0 s14 1 s15 51 s16 6 s17 7 s18
 have s26 : F19 8 = .int .u64 ((y : Nat) : Int) := (hF20 8).trans rfl
 clear hF20
 refine then_normal (wq_seq (wq_region (wl_mv rfl rfl rfl s22 (wl_v (.int .u64 ((0 : Nat) : Int)) rfl rfl (y_shrR 32 rfl rfl rfl (by decide) (shr32 hy) rr) (wl_v (.int .u64 ((0 : Nat) : Int)) rfl rfl (y_asg rfl rfl rr) (wl_nil fun F27 hF28 => ?_))))))
 obtain ⟨s29, s30, s31, s32, s33, s34⟩ := t6 hF28 0 s21 1 s22 51 s23 6 s24 7 s25 8 s26
 have s35 : F27 9 = .int .u64 ((0 : Nat) : Int) := (hF28 9).trans rfl
 clear hF28
 refine then_normal (wq_seq (wq_region (wl_mv rfl rfl rfl s32 (wl_mv rfl rfl rfl s34 (wl_v (.int .u64 ((x * y : Nat) : Int)) rfl rfl (y_mul rfl rfl rfl (u64_mul (by omega)) rr) (wl_v (.int .u64 ((x * y : Nat) : Int)) rfl rfl (y_asg rfl rfl rr) (wl_nil fun F36 hF37 => ?_)))))))
 obtain ⟨s38, s39, s40, s41, s42, s43, s44⟩ := t7 hF37 0 s29 1 s30 51 s31 6 s32 7 s33 8 s34 9 s35
 have s45 : F36 10 = .int .u64 ((x * y : Nat) : Int) := (hF37 10).trans rfl
 clear hF37
 refine then_normal (wq_seq (wq_region (wl_mv rfl rfl rfl s42 (wl_mv rfl rfl rfl s43 (wl_v (.int .u64 ((0 : Nat) : Int)) rfl rfl (y_mul rfl rfl rfl (by rw [show ((0 : Nat) : Int) * ((y : Nat) : Int) = ((0 : Nat) : Int) by simp]; rfl) rr) (wl_mv rfl rfl rfl s45 (wl_v (.int .u64 ((0 : Nat) : Int)) rfl rfl (y_shrR 32 rfl rfl rfl (by decide) (shr32 hxy) rr) (wl_v (.int .u64 ((0 : Nat) : Int)) rfl rfl (y_add rfl rfl rfl rfl rr) (wl_v (.int .u64 ((0 : Nat) : Int)) rfl rfl (y_asg rfl rfl rr) (wl_nil fun F46 hF47 => ?_))))))))))
 obtain ⟨s48, s49, s50, s51, s52, s53⟩ := t6 hF47 0 s38 1 s39 51 s40 6 s41 7 s42 9 s44
 have s54 : F46 11 = .int .u64 ((0 : Nat) : Int) := (hF47 11).trans rfl
 clear hF47
 refine then_normal (wq_seq (wq_region (wl_mv rfl rfl rfl s54 (wl_v (.int .u64 ((0 : Nat) : Int)) rfl rfl (y_andR rfl rfl rfl (and32 (by decide)) rr) (wl_v (.int .u64 ((0 : Nat) : Int)) rfl rfl (y_asg rfl rfl rr) (wl_nil fun F55 hF56 => ?_))))))
 obtain ⟨s57, s58, s59, s60, s61, s62, s63⟩ := t7 hF56 0 s48 1 s49 51 s50 6 s51 7 s52 9 s53 11 s54
 have s64 : F55 12 = .int .u64 ((0 : Nat) : Int) := (hF56 12).trans rfl
 clear hF56
 refine then_normal (wq_seq (wq_region (wl_mv rfl rfl rfl s63 (wl_v (.int .u64 ((0 : Nat) : Int)) rfl rfl (y_shrR 32 rfl rfl rfl (by decide) (shr32 (by decide)) rr) (wl_v (.int .u64 ((0 : Nat) : Int)) rfl rfl (y_asg rfl rfl rr) (wl_nil fun F65 hF66 => ?_))))))
 obtain ⟨s67, s68, s69, s70, s71, s72, s73⟩ := t7 hF66 0 s57 1 s58 51 s59 6 s60 7 s61 9 s62 12 s64
 have s74 : F65 13 = .int .u64 ((0 : Nat) : Int) := (hF66 13).trans rfl
 clear hF66
 refine then_normal (wq_seq (wq_region (wl_mv rfl rfl rfl s73 (wl_mv rfl rfl rfl s70 (wl_mv rfl rfl rfl s72 (wl_v (.int .u64 ((0 : Nat) : Int)) rfl rfl (y_mul rfl rfl rfl (by rw [show ((x : Nat) : Int) * ((0 : Nat) : Int) = ((0 : Nat) : Int) by simp]; rfl) rr) (wl_v (.int .u64 ((0 : Nat) : Int)) rfl rfl (y_add rfl rfl rfl rfl rr) (wl_v (.int .u64 ((0 : Nat) : Int)) rfl rfl (y_asg rfl rfl rr) (wl_nil fun F75 hF76 => ?_)))))))))
 obtain ⟨s77, s78, s79, s80, s81, s82⟩ := t6 hF76 0 s67 1 s68 51 s69 7 s71 9 s72 13 s74
 have s83 : F75 12 = .int .u64 ((0 : Nat) : Int) := (hF76 12).trans rfl
 clear hF76
 refine then_normal (wq_seq (wq_region (wl_mv rfl rfl rfl s80 (wl_mv rfl rfl rfl s81 (wl_v (.int .u64 ((0 : Nat) : Int)) rfl rfl (y_mul rfl rfl rfl rfl rr) (wl_mv rfl rfl rfl s82 (wl_v (.int .u64 ((0 : Nat) : Int)) rfl rfl (y_add rfl rfl rfl rfl rr) (wl_mv rfl rfl rfl s83 (wl_v (.int .u64 ((0 : Nat) : Int)) rfl rfl (y_shrR 32 rfl rfl rfl (by decide) (shr32 (by decide)) rr) (wl_v (.int .u64 ((0 : Nat) : Int)) rfl rfl (y_add rfl rfl rfl rfl rr) (wl_v (.int .u64 ((0 : Nat) : Int)) rfl rfl (y_asg rfl rfl rr) ?_)))))))))))
 refine wl_nil fun F84 hF85 => ?_
 obtain ⟨s86, s87, s88⟩ := t3 hF85 0 s77 1 s78 51 s79
 have s89 : F84 4 = .int .u64 ((0 : Nat) : Int) := (hF85 4).trans rfl
 clear hF85
 refine then_normal (wq_seq (wq_region (wl_mv rfl rfl rfl s86 (wl_mv rfl rfl rfl s87 (wl_v (.int .u64 ((x * y : Nat) : Int)) rfl rfl (y_mul rfl rfl rfl (u64_mul (by omega)) rr) (wl_v (.int .u64 ((x * y : Nat) : Int)) rfl rfl (y_asg rfl rfl rr) (wl_nil fun F90 hF91 => ?_)))))))
 obtain ⟨s92, s93⟩ := t2 hF91 51 s88 4 s89
 have s94 : F90 5 = .int .u64 ((x * y : Nat) : Int) := (hF91 5).trans rfl
 clear hF91
 refine then_normal (wq_ret ?_)
 exact end_2 s92 rfl (res_tmp (v := .int .u64 ((0 : Nat) : Int)) rfl s93) (res_tmp (v := .int .u64 ((x * y : Nat) : Int)) rfl s94) ⟨rfl, K0⟩
theorem ps_mul (x y : Nat) (w0 : World) (hx : x < 4294967296) (hy : y < 4294967296) (hxy : x * y < 4294967296) :
  Calls Tryz.prog 92 #[.int .u64 (((x : Nat) : Int)), .int .u64 (((y : Nat) : Int))] w0 fun e w' => e = .returned (.tuple #[.int .u64 (((0 : Nat) : Int)), .int .u64 (((x * y : Nat) : Int))]) ∧ Kept (fun _ => False) w0 w' := by
 refine calls_wq (args := [.int .u64 ((x : Nat) : Int), .int .u64 ((y : Nat) : Int)]) 30 Tryz.func92 rfl rfl (Nat.le_of_ble_eq_true rfl) ?_
 have K0 := Kept.refl (fun _ => False) w0
 refine wq_seq (wq_region (wl_v (.int .u64 0) rfl rfl (y_asg rfl rfl rr) (wl_v (.int .u64 0) rfl rfl (y_asg rfl rfl rr) (wl_nil fun F1 hF2 => ?_))))
 have s3 : F1 0 = .int .u64 ((x : Nat) : Int) := (hF2 0).trans rfl
 have s4 : F1 1 = .int .u64 ((y : Nat) : Int) := (hF2 1).trans rfl
 have s5 : F1 30 = undef := (hF2 30).trans rfl
 clear hF2
 refine then_normal (wq_seq ?_)
 refine wq_cond (t := false) rfl (fun e => by cases e) (fun _ => ?_)
 refine wq_skip (then_normal (wq_seq (wq_region (wl_mv rfl rfl rfl s3 (wl_mv rfl rfl rfl s4 (wl_cs rfl rfl rfl rfl rfl (fun _ _ => by kernel_rfl) (vsC rfl (vsC rfl vsN)) (ps_mul64 x y  _ hx hy hxy  ) fun w6 k7 => ?_))))))
 have K8 := K0.tr k7
 refine wl_v (.tuple #[.int .u64 ((0 : Nat) : Int), .int .u64 ((x * y : Nat) : Int)]) rfl rfl (y_mov rfl rfl rr) (wl_v (.int .u64 ((0 : Nat) : Int)) rfl rfl (y_ext rfl rfl rfl rr) (wl_v (.int .u64 ((x * y : Nat) : Int)) rfl rfl (y_ext rfl rfl rfl rr) (wl_v (.int .u64 ((0 : Nat) : Int)) rfl rfl (y_asg rfl rfl rr) (wl_v (.int .u64 ((x * y : Nat) : Int)) rfl rfl (y_asg rfl rfl rr) (wl_nil fun F9 hF10 => ?_)))))
 have s11 := (hF10 30).trans s5
 have s12 : F9 8 = .int .u64 ((0 : Nat) : Int) := (hF10 8).trans rfl
 have s13 : F9 9 = .int .u64 ((x * y : Nat) : Int) := (hF10 9).trans rfl
 clear hF10
 refine then_normal (wq_seq (wq_region (wl_mv rfl rfl rfl s12 (wl_mv rfl rfl rfl s13 (wl_v (.int .u64 ((0 : Nat) : Int)) rfl rfl (y_asg rfl rfl rr) (wl_v (.int .u64 ((x * y : Nat) : Int)) rfl rfl (y_asg rfl rfl rr) (wl_nil fun F14 hF15 => ?_)))))))
 have s16 := (hF15 30).trans s11
 have s17 : F14 4 = .int .u64 ((0 : Nat) : Int) := (hF15 4).trans rfl
 have s18 : F14 5 = .int .u64 ((x * y : Nat) : Int) := (hF15 5).trans rfl
 clear hF15
 refine then_normal (wq_ret ?_)
 exact end_2 s16 rfl (res_tmp (v := .int .u64 ((0 : Nat) : Int)) rfl s17) (res_tmp (v := .int .u64 ((x * y : Nat) : Int)) rfl s18) ⟨rfl, K8⟩
theorem ps_repeat (v : Value) (l : List Nat) (s n : Nat) (T_b : Nat → Prop) (w0 : World) (hl : l.length = 1) (hs : l.getD 0 0 = s) (hn : 1 ≤ n) (hn2 : n ≤ 64) (h_b : Byt w0 T_b v (l)) :
  Calls Tryz.prog 54 #[v, .int .i64 (((n : Nat) : Int))] w0 fun e w' => ∃ (v1 : Value) (T1 : Nat → Prop), e = .returned (v1) ∧ Kept (fun _ => False) w0 w' ∧ (Byt w' T1 v1 (List.replicate n s) ∧ Grew w0 noB T1) := by
 refine calls_wq (args := [v, iv ((n : Nat) : Int)]) 77 Tryz.func54 rfl rfl (Nat.le_of_ble_eq_true rfl) ?_
 have K0 := Kept.refl (fun _ => False) w0
 have g_b := Grew.refl w0 T_b
 refine wq_seq (wq_region (wl_v (.slice none 0 0) rfl rfl (y_asg rfl rfl rr) (wl_nil fun F1 hF2 => ?_)))
 have s3 : F1 0 = v := (hF2 0).trans rfl
 have s4 : F1 1 = iv ((n : Nat) : Int) := (hF2 1).trans rfl
 have s5 : F1 77 = undef := (hF2 77).trans rfl
 clear hF2
 refine then_normal (wq_seq (wq_seq (wq_region (wl_mv rfl rfl rfl s4 (wl_v (.bool (decide (((n : Nat) : Int) = 0))) rfl rfl (y_eqlI rfl rfl rfl rfl rr) (wl_nil fun F6 hF7 => ?_))))))
 obtain ⟨s8, s9, s10⟩ := t3 hF7 0 s3 1 s4 77 s5
 have s11 : F6 13 = .bool (decide (((n : Nat) : Int) = 0)) := (hF7 13).trans rfl
 clear hF7
 refine then_normal ?_
 refine wq_cond s11 (fun c12 => ?_) (fun c12 => ?_)
 ·replace c12 := of_decide_eq_true c12
  refine wq_seq ?_
  exfalso; omega
 ·replace c12 := of_decide_eq_false c12
  refine wq_skip (then_normal (wq_seq (wq_seq (wq_region (wl_mv rfl rfl rfl s9 (wl_v (.bool (decide (((n : Nat) : Int) < 0))) rfl rfl (y_lss rfl rfl rfl rfl rr) (wl_nil fun F13 hF14 => ?_)))))))
  obtain ⟨s15, s16, s17⟩ := t3 hF14 0 s8 1 s9 77 s10
  have s18 : F13 16 = .bool (decide (((n : Nat) : Int) < 0)) := (hF14 16).trans rfl
  clear hF14
  refine then_normal ?_
  refine wq_cond s18 (fun c19 => ?_) (fun c19 => ?_)
  ·replace c19 := of_decide_eq_true c19
   exfalso; omega
  ·replace c19 := of_decide_eq_false c19
   refine wq_skip (then_normal (wq_seq (wq_region (wl_mv rfl rfl rfl s15 (wl_v (iv ((l.length : Nat) : Int)) rfl rfl (y_lenV rfl rfl rfl h_b rr) (wl_v (.int .u64 ((l.length : Nat) : Int)) rfl rfl (y_convR rfl rfl Tryz.underlying3 Tryz.underlying101 (u64_small (by omega)) rr) (wl_mv rfl rfl rfl s16 (wl_v (.int .u64 ((n : Nat) : Int)) rfl rfl (y_convR rfl rfl Tryz.underlying3 Tryz.underlying101 (u64_small (by omega)) rr) (wl_cs rfl rfl rfl rfl rfl (fun _ _ => by kernel_rfl) (vsC rfl (vsC rfl vsN)) (ps_mul (l.length) n  _ (by omega) (by omega) (by rw [hl]; omega)  ) fun w20 k21 => ?_)))))))))
   have B22 := h_b.all k21 Apart.none
   have K23 := K0.tr k21
   refine wl_v (.tuple #[.int .u64 ((0 : Nat) : Int), .int .u64 (((l.length) * n : Nat) : Int)]) rfl rfl (y_mov rfl rfl rr) (wl_v (.int .u64 ((0 : Nat) : Int)) rfl rfl (y_ext rfl rfl rfl rr) (wl_v (.int .u64 (((l.length) * n : Nat) : Int)) rfl rfl (y_ext rfl rfl rfl rr) (wl_v (.int .u64 ((0 : Nat) : Int)) rfl rfl (y_asg rfl rfl rr) (wl_v (.int .u64 (((l.length) * n : Nat) : Int)) rfl rfl (y_asg rfl rfl rr) (wl_nil fun F24 hF25 => ?_)))))
   obtain ⟨s26, s27⟩ := t2 hF25 0 s15 77 s17
   have s28 : F24 5 = .int .u64 ((0 : Nat) : Int) := (hF25 5).trans rfl
   have s29 : F24 6 = .int .u64 (((l.length) * n : Nat) : Int) := (hF25 6).trans rfl
   clear hF25
   refine then_normal (wq_seq (wq_seq ?_))
   have s30 : F24 6 = .int .u64 ((n : Nat) : Int) := s29.trans (congrArg (Value.int .u64) (by rw [hl, Nat.one_mul]))
   refine wq_region (wl_mv rfl rfl rfl s28 (wl_v (.bool false) rfl rfl (y_gtr rfl rfl rfl rfl rr) (wl_v (.bool false) rfl rfl (y_mov rfl rfl rr) (wl_vw (.int .u64 ((n : Nat) : Int)) 2 false 29 rfl rfl rfl rfl rfl (y_mov rfl s30 rr) (wl_vw (.bool (decide (9223372036854775807 < ((n : Nat) : Int)))) 2 false 29 rfl rfl rfl rfl rfl (y_gtr rfl rfl rfl rfl rr) (wl_v (.bool (decide (9223372036854775807 < ((n : Nat) : Int)))) rfl rfl (y_pickF rfl rfl rfl rr) (wl_nil fun F31 hF32 => ?_)))))))
   obtain ⟨s33, s34, s35⟩ := t3 hF32 0 s26 77 s27 6 s30
   have s36 : F31 32 = .bool (decide (9223372036854775807 < ((n : Nat) : Int))) := (hF32 32).trans rfl
   clear hF32
   refine then_normal ?_
   refine wq_cond s36 (fun c37 => ?_) (fun c37 => ?_)
   ·replace c37 := of_decide_eq_true c37
    exfalso; omega
   ·replace c37 := of_decide_eq_false c37
    refine wq_skip (then_normal (wq_seq (wq_region (wl_mv rfl rfl rfl s35 (wl_v (iv ((n : Nat) : Int)) rfl rfl (y_convR rfl rfl Tryz.underlying101 Tryz.underlying3 (i64_i rfl (by omega)) rr) (wl_v (iv ((n : Nat) : Int)) rfl rfl (y_asg rfl rfl rr) (wl_nil fun F38 hF39 => ?_)))))))
    obtain ⟨s40, s41⟩ := t2 hF39 0 s33 77 s34
    have s42 : F38 7 = iv ((n : Nat) : Int) := (hF39 7).trans rfl
    clear hF39
    refine then_normal (wq_seq (wq_seq (wq_region (wl_mv rfl rfl rfl s40 (wl_v (iv ((l.length : Nat) : Int)) rfl rfl (y_lenV rfl rfl rfl B22 rr) (wl_v (.bool (decide (((l.length : Nat) : Int) = 0))) rfl rfl (y_eqlI rfl rfl rfl rfl rr) (wl_nil fun F43 hF44 => ?_)))))))
    obtain ⟨s45, s46, s47⟩ := t3 hF44 0 s40 77 s41 7 s42
    have s48 : F43 38 = .bool (decide (((l.length : Nat) : Int) = 0)) := (hF44 38).trans rfl
    clear hF44
    refine then_normal ?_
    refine wq_cond s48 (fun c49 => ?_) (fun c49 => ?_)
    ·replace c49 := of_decide_eq_true c49
     refine wq_seq ?_
     exfalso; omega
    ·replace c49 := of_decide_eq_false c49
     refine wq_skip (then_normal (wq_seq (wq_region (wl_mv rfl rfl rfl s47 (wl_v (iv ((n : Nat) : Int)) rfl rfl (y_asg rfl rfl rr) (wl_nil fun F50 hF51 => ?_))))))
     obtain ⟨s52, s53, s54⟩ := t3 hF51 0 s45 77 s46 7 s47
     have s55 : F50 8 = iv ((n : Nat) : Int) := (hF51 8).trans rfl
     clear hF51
     refine then_normal (wq_seq (wq_seq (wq_region (wl_mv rfl rfl rfl s55 (wl_v (.bool (decide (8192 < ((n : Nat) : Int)))) rfl rfl (y_gtr rfl rfl rfl rfl rr) (wl_nil fun F56 hF57 => ?_))))))
     obtain ⟨s58, s59, s60, s61⟩ := t4 hF57 0 s52 77 s53 7 s54 8 s55
     have s62 : F56 42 = .bool (decide (8192 < ((n : Nat) : Int))) := (hF57 42).trans rfl
     clear hF57
     refine then_normal ?_
     refine wq_cond s62 (fun c63 => ?_) (fun c63 => ?_)
     ·replace c63 := of_decide_eq_true c63
      refine wq_seq ?_
      exfalso; omega
     ·replace c63 := of_decide_eq_false c63
      refine wq_skip (then_normal (wq_seq (wq_region (wl_mv rfl rfl rfl s60 (wl_mnz (n := n) rfl rfl rfl rfl rfl (by omega) (by omega) Tryz.func93 (by kernel_rfl) (by kernel_rfl) (by kernel_rfl) (by kernel_rfl) fun v64 w65 T69 J70 B67 hJ71 g68 k66 => ?_)))))
      have gr72 : Grew w0 noB T69 := Grew.new K23 g68
      have ap73 : Apart T69 T_b := Apart.new g68 B22.live
      have B74 := B22.all k66 Apart.none
      have K75 := K23.tr k66
      refine wl_mv rfl rfl rfl s60 (wl_mv rfl rfl rfl s60 (wl_v (subV v64 0 n n) rfl rfl (y_cut3T n n rfl rfl rfl rfl (by omega) (by omega) B67.byt (by omega) (by omega) rr) (wl_v (subV v64 0 n n) rfl rfl (y_asg rfl rfl rr) (wl_nil fun F76 hF77 => ?_))))
      obtain ⟨s78, s79, s80, s81⟩ := t4 hF77 0 s58 77 s59 7 s60 8 s61
      have s82 : F76 9 = subV v64 0 n n := (hF77 9).trans rfl
      clear hF77
      refine then_normal (wq_seq (wq_region (wl_mv rfl rfl rfl s82 (wl_mv rfl rfl rfl s78 (wl_copyM rfl rfl rfl rfl rfl (part_sub B67.byt (by omega)) rfl B67 B74 (by omega) fun w84 B86 k85 => ?_)))))
      have B89 := B74.all k85 ap73.symm
      have K90 := K75.trans k85 (Grew.ok (S := fun _ => False) gr72 noB_le)
      refine wl_v (iv ((min (n - 0) l.length : Nat) : Int)) rfl rfl (y_asg rfl rfl rr) (wl_nil fun F91 hF92 => ?_)
      obtain ⟨s93, s94, s95, s96⟩ := t4 hF92 77 s79 7 s80 8 s81 9 s82
      have s97 : F91 10 = iv ((min (n - 0) l.length : Nat) : Int) := (hF92 10).trans rfl
      clear hF92
      refine then_normal (wq_seq (wq_block (wq_loop (fun nn FF ww => ∃ (k : Nat), ∃ (L : List Nat), ∃ (T98 : Nat → Prop), (1 ≤ k ∧ k ≤ n) ∧ (L.length = n) ∧ (L.take k = List.replicate k s) ∧ nn = n - k ∧ FF 7 = iv ((n : Nat) : Int) ∧ FF 8 = iv ((n : Nat) : Int) ∧ FF 9 = subV v64 0 n n ∧ FF 77 = undef ∧ FF 10 = iv ((k : Nat) : Int) ∧ Kept (fun _ => False) w0 ww ∧ Byt ww T_b v l ∧ Owb ww T98 v64 L ∧ Grew w0 noB T98 ∧ Apart T98 T_b) (n - 1) ⟨1, _, T69, by omega, (rep_start (by assumption) hn hl hs).1, (rep_start (by assumption) hn hl hs).2, rfl, s94, s95, s96, s93, s97.trans (congrArg (Value.int .i64) (by omega)), K90, B89, B86, gr72, ap73⟩ ?_)))
      rintro n102 F99 w100 ⟨k, L, T98, i103, hLn, hT, hn102, s104, s105, s106, s107, s108, K101, B109, B110, gr111, ap112⟩
      refine wq_seq (wq_seq (wq_region (wl_mv rfl rfl rfl s108 (wl_mv rfl rfl rfl s104 (wl_v (.bool (decide (((k : Nat) : Int) < ((n : Nat) : Int)))) rfl rfl (y_lss rfl rfl rfl rfl rr) (wl_nil fun F113 hF114 => ?_))))))
      obtain ⟨s115, s116, s117, s118, s119⟩ := t5 hF114 7 s104 8 s105 9 s106 77 s107 10 s108
      have s120 : F113 63 = .bool (decide (((k : Nat) : Int) < ((n : Nat) : Int))) := (hF114 63).trans rfl
      clear hF114
      refine then_normal ?_
      refine wq_cond s120 (fun c121 => ?_) (fun c121 => ?_)
      ·replace c121 := of_decide_eq_true c121
       refine wq_skip (then_normal (wq_block (wq_seq (wq_region (wl_mv rfl rfl rfl s119 (wl_mv rfl rfl rfl s116 (wl_v (iv ((k : Nat) : Int)) rfl rfl (y_minR rfl rfl rfl (by omega) rr) (wl_v (iv ((k : Nat) : Int)) rfl rfl (y_asg rfl rfl rr) (wl_nil fun F122 hF123 => ?_)))))))))
       obtain ⟨s124, s125, s126, s127, s128⟩ := t5 hF123 7 s115 8 s116 9 s117 77 s118 10 s119
       have s129 : F122 11 = iv ((k : Nat) : Int) := (hF123 11).trans rfl
       clear hF123
       refine then_normal ?_
       refine wq_tailR 9 (RepR T98 v64 L (repL L n k)) [some 67, some 68, some 69, some 70, some 71, some 72, some 73, some 74, some 75] (RepG T98 v64 (repL L n k) [iv (k : Int), subV v64 0 n n, iv (k : Int), subV (subV v64 0 n n) k (n - 0) (n - 0), subV v64 0 n n, iv (k : Int), subV (subV v64 0 n n) 0 k (n - 0), iv ((min (n - k) k : Nat) : Int), iv ((k + min (n - k) k : Nat) : Int)]) (by kernel_rfl) (by kernel_rfl) (by kernel_rfl) RepR.refl (fun _ _ _ h1 h2 => h1.trans h2) (RepR.drew _) RepG.stays ?_ ?_
       ·refine stepsR_cons rfl (fun F_ w_ hR hout hD => ?_) ?_
        ·exact y_mov rfl ((hout 10 rfl (by decide)).trans s128) ⟨⟨rfl, fun e => by cases e⟩, RepR.refl _⟩
        refine stepsR_cons rfl (fun F_ w_ hR hout hD => ?_) ?_
        ·exact y_mov rfl ((hout 9 rfl (by decide)).trans s126) ⟨⟨rfl, fun e => by cases e⟩, RepR.refl _⟩
        refine stepsR_cons rfl (fun F_ w_ hR hout hD => ?_) ?_
        ·exact y_mov rfl ((hout 10 rfl (by decide)).trans s128) ⟨⟨rfl, fun e => by cases e⟩, RepR.refl _⟩
        refine stepsR_cons rfl (fun F_ w_ hR hout hD => ?_) ?_
        ·have g68 : F_ 68 = subV v64 0 n n := (hD.get 0 rfl rfl rfl).1
         have g69 : F_ 69 = iv (k : Int) := (hD.get 1 rfl rfl rfl).1
         exact rep_cutL rfl g68 g69 (by omega) B110 hR ⟨⟨rfl, fun e => by cases e⟩, RepR.refl _⟩
        refine stepsR_cons rfl (fun F_ w_ hR hout hD => ?_) ?_
        ·exact y_mov rfl ((hout 9 rfl (by decide)).trans s126) ⟨⟨rfl, fun e => by cases e⟩, RepR.refl _⟩
        refine stepsR_cons rfl (fun F_ w_ hR hout hD => ?_) ?_
        ·exact y_mov rfl ((hout 11 rfl (by decide)).trans s129) ⟨⟨rfl, fun e => by cases e⟩, RepR.refl _⟩
        refine stepsR_cons rfl (fun F_ w_ hR hout hD => ?_) ?_
        ·have g71 : F_ 71 = subV v64 0 n n := (hD.get 0 rfl rfl rfl).1
         have g72 : F_ 72 = iv (k : Int) := (hD.get 1 rfl rfl rfl).1
         exact rep_cutH rfl g71 g72 (by omega) B110 hR ⟨⟨rfl, fun e => by cases e⟩, RepR.refl _⟩
        refine stepsR_cons rfl (fun F_ w_ hR hout hD => ?_) ?_
        ·have g70 : F_ 70 = subV (subV v64 0 n n) k (n - 0) (n - 0) := (hD.get 0 rfl rfl rfl).1
         have g73 : F_ 73 = subV (subV v64 0 n n) 0 k (n - 0) := (hD.get 1 rfl rfl rfl).1
         exact rep_turn rfl rfl g70 g73 hLn (by omega) hT B110 hR rfl
        refine stepsR_cons rfl (fun F_ w_ hR hout hD => ?_) ?_
        ·have g67 : F_ 67 = iv (k : Int) := (hD.get 0 rfl rfl rfl).1
         have g74 : F_ 74 = iv ((min (n - k) k : Nat) : Int) := (hD.get 1 rfl rfl rfl).1
         exact y_add rfl g67 g74 (i64_n (m := k + min (n - k) k) (by omega) (by omega)) ⟨⟨rfl, fun e => by cases e⟩, RepR.refl _⟩
        exact stepsR_nil
       intro v130 F131 w132 R133 G134 hF135
       have k136 := R133.1
       have B137 := (G134 7 (by decide)).2 rfl
       have B138 := B109.all k136 ap112.symm
       have K139 := K101.trans k136 (Grew.ok (S := fun _ => False) gr111 noB_le)
       have s140 : F131 7 = iv ((n : Nat) : Int) := (hF135 7).trans s124
       have s141 : F131 8 = iv ((n : Nat) : Int) := (hF135 8).trans s125
       have s142 : F131 9 = subV v64 0 n n := (hF135 9).trans s126
       have s143 : F131 77 = undef := (hF135 77).trans s127
       have s145 : F131 75 = iv ((k + min (n - k) k : Nat) : Int) := (hF135 75).trans (G134 8 (by decide)).1
       clear R133 G134 hF135
       refine wl_as rfl rfl rfl s145 (wl_nil fun F146 hF147 => ?_)
       obtain ⟨s148, s149, s150, s151⟩ := t4 hF147 7 s140 8 s141 9 s142 77 s143
       have s152 : F146 10 = iv ((k + min (n - k) k : Nat) : Int) := (hF147 10).trans rfl
       clear hF147
       refine in_normal ?_
       exact then_normal ⟨(n - (k + min (n - k) k)), by omega, k + min (n - k) k, _, T98, by omega, repL_length hLn (by omega), repL_take hLn (by omega) hT, rfl, s148, s149, s150, s151, s152, K139, B138, B137, gr111, ap112⟩
      ·replace c121 := of_decide_eq_false c121
       refine wq_exit (then_exit (then_exit (in_here (then_normal (wq_seq (wq_region (wl_mv rfl rfl rfl s117 (wl_v (subV v64 0 n n) rfl rfl (y_asg rfl rfl rr) (wl_nil fun F153 hF154 => ?_)))))))))
       have s155 := (hF154 77).trans s118
       have s156 : F153 4 = subV v64 0 n n := (hF154 4).trans rfl
       clear hF154
       refine then_normal (wq_ret ?_)
       exact end_tmp (v := subV v64 0 n n) s155 rfl rfl s156 ⟨(subV v64 0 n n), T98, rfl, K101, ⟨(Byt.of_eq (rep_done (by omega) hT) ((B110.byt).sub (i := 0) (j := n) (m := n) (by omega) (by have hc_ := (B110.byt).cap; omega) (by omega) (by have hc_ := (B110.byt).cap; omega))), gr111⟩⟩
end Go.Proofs.YtknjpdcpmpfklaaGreatDoor
set_option maxRecDepth 100000
namespace Go.Proofs.YtknjpdcpmpfklaaGreatDoor
open Go.RowKit
def fillL (A s m : Nat) : List Nat := List.replicate m s ++ List.replicate (A - m) 0
theorem fill_length {A s m : Nat} (h : m ≤ A) : (fillL A s m).length = A := by unfold fillL; simp; omega
theorem fill_start {A s pw : Nat} {l : List Nat} (h : l = List.replicate A 0) : fillL A s (0 * pw) = l := by rw [h]; unfold fillL; simp
theorem fill_done {A s : Nat} {l : List Nat} (h : l = List.replicate A s) : l = fillL A s A := by rw [h]; unfold fillL; simp
theorem fill_next {A s a pw y : Nat} (hp : pw ≤ a) :
    fillL A s ((y + 1) * pw) = (fillL A s (y * pw)).take ((((y : Nat) : Int)) * (((pw : Nat) : Int))).toNat ++ ((List.replicate a s).take ((((((y : Nat) : Int)) * (((pw : Nat) : Int))) + (((pw : Nat) : Int))).toNat - ((((y : Nat) : Int)) * (((pw : Nat) : Int))).toNat) ++ (fillL A s (y * pw)).drop (((((y : Nat) : Int)) * (((pw : Nat) : Int))).toNat + min ((((((y : Nat) : Int)) * (((pw : Nat) : Int))) + (((pw : Nat) : Int))).toNat - ((((y : Nat) : Int)) * (((pw : Nat) : Int))).toNat) (List.replicate a s).length)) := by
  have e1 : ((((y : Nat) : Int)) * (((pw : Nat) : Int))).toNat = y * pw := by rw [← Int.natCast_mul, Int.toNat_natCast]
  have e2 : (((((y : Nat) : Int)) * (((pw : Nat) : Int))) + (((pw : Nat) : Int))).toNat = y * pw + pw := by rw [← Int.natCast_mul, ← Int.natCast_add, Int.toNat_natCast]
  rw [e1, e2, show y * pw + pw - y * pw = pw by omega, List.length_replicate, show min pw a = pw by omega, List.take_replicate, show min pw a = pw by omega, Nat.succ_mul]
  unfold fillL
  rw [List.take_append_of_le_length (by simp), List.take_of_length_le (by simp), List.drop_append]
  simp only [List.length_replicate, List.drop_replicate]
  rw [show y * pw - (y * pw + pw) = 0 by omega, show y * pw + pw - y * pw = pw by omega, show A - y * pw - pw = A - (y * pw + pw) by omega, List.replicate_zero, List.nil_append, ← List.append_assoc, List.replicate_append_replicate]
theorem new_planes {w h : Int} (s : Nat) (hsw : sideB w = true) (hsh : sideB h = true) {a b : Nat} (ha : (a : Int) = w) (hb : (b : Int) = h) : (newF w h s).p0 = List.replicate (b * a) s ∧ (newF w h s).p1 = List.replicate (b / 2 * (a / 2)) s ∧ (newF w h s).p2 = List.replicate (b / 2 * (a / 2)) s := by
  have h1 := (sideB_iff _).1 hsw
  have h2 := (sideB_iff _).1 hsh
  subst ha; subst hb
  rw [newF_yes s hsw hsh]
  have e0 : ((a : Int) * (b : Int)).toNat = b * a := by rw [← Int.natCast_mul, Int.toNat_natCast, Nat.mul_comm]
  have e1 : ((a : Int) * (b : Int) / 4).toNat = b / 2 * (a / 2) := by
    rw [← quarter h1.2.2 h2.2.2 (by omega) (by omega), tdiv2 (by omega), tdiv2 (by omega), show (a : Int) / 2 = ((a / 2 : Nat) : Int) by omega, show (b : Int) / 2 = ((b / 2 : Nat) : Int) by omega, ← Int.natCast_mul, Int.toNat_natCast, Nat.mul_comm]
  exact ⟨congrArg (List.replicate · s) e0, congrArg (List.replicate · s) e1, congrArg (List.replicate · s) e1⟩
theorem size_as {w h : Int} (hsw : sideB w = true) (hsh : sideB h = true) {g : FD} (hW : g.W = w) (hH : g.H = h) (h0 : g.p0.length = (newF w h 0).p0.length) (h1 : g.p1.length = (newF w h 0).p1.length) (h2 : g.p2.length = (newF w h 0).p2.length) (k : Nat) (hk : k ≤ 2) {a b : Nat} (ha : (a : Int) = w) (hb : (b : Int) = h) : sizeF g ((k : Nat) : Int) = (((pn2 a (a / 2) k : Nat) : Int), ((pn2 b (b / 2) k : Nat) : Int)) := by
  have hn := new_ok 0 hsw hsh
  have hg : okF g := ok_of hn (by rw [hW, (new_side 0 hsw hsh).1]) (by rw [hH, (new_side 0 hsw hsh).2]) h0 h1 h2
  have s1 := (sideB_iff _).1 hsw
  have s2 := (sideB_iff _).1 hsh
  cases k with
  | zero => show sizeF g 0 = _; rw [sizeF_first hg rfl, hW, hH, ← ha, ← hb]; rfl
  | succ k =>
    rw [sizeF_other hg (by omega) (by omega) (by omega), hW, hH, tdiv2 (by omega), tdiv2 (by omega)]
    simp only [pn2]
    congr 1 <;> omega
theorem size_fst {w h : Int} (hsw : sideB w = true) (hsh : sideB h = true) {g : FD} (hW : g.W = w) (hH : g.H = h) (h0 : g.p0.length = (newF w h 0).p0.length) (h1 : g.p1.length = (newF w h 0).p1.length) (h2 : g.p2.length = (newF w h 0).p2.length) (k : Nat) (hk : k ≤ 2) {a b : Nat} (ha : (a : Int) = w) (hb : (b : Int) = h) : (sizeF g ((k : Nat) : Int)).1 = ((pn2 a (a / 2) k : Nat) : Int) := by rw [size_as hsw hsh hW hH h0 h1 h2 k hk ha hb]
theorem size_snd {w h : Int} (hsw : sideB w = true) (hsh : sideB h = true) {g : FD} (hW : g.W = w) (hH : g.H = h) (h0 : g.p0.length = (newF w h 0).p0.length) (h1 : g.p1.length = (newF w h 0).p1.length) (h2 : g.p2.length = (newF w h 0).p2.length) (k : Nat) (hk : k ≤ 2) {a b : Nat} (ha : (a : Int) = w) (hb : (b : Int) = h) : (sizeF g ((k : Nat) : Int)).2 = ((pn2 b (b / 2) k : Nat) : Int) := by rw [size_as hsw hsh hW hH h0 h1 h2 k hk ha hb]
theorem row_fact {y pw ph : Nat} (h : y < ph) (hp : pw ≤ 64) (hh : ph ≤ 64) : y * pw + pw ≤ ph * pw ∧ 0 ≤ ((y : Nat) : Int) * ((pw : Nat) : Int) ∧ ((y : Nat) : Int) * ((pw : Nat) : Int) ≤ 4096 ∧ ((y : Nat) : Int) * ((pw : Nat) : Int) + ((pw : Nat) : Int) ≤ ((ph * pw : Nat) : Int) := by
  have h1 : (y + 1) * pw ≤ ph * pw := Nat.mul_le_mul_right _ h
  rw [Nat.succ_mul] at h1
  have h2 : y * pw ≤ 64 * 64 := Nat.mul_le_mul (by omega) hp
  rw [← Int.natCast_mul]
  omega
theorem pl_new (w h : Int) (s : Nat) (w0 : World) (hs : s < 256) :
  Calls Tryz.prog 25 #[.int .i64 (w), .int .i64 (h), .int .u8 (((s : Nat) : Int))] w0 fun e w' => ∃ (v1 : Value) (T1 : Nat → Prop) (v2 : Value) (T2 : Nat → Prop) (v3 : Value) (T3 : Nat → Prop), e = .returned (.tuple #[.agg #[.int .i64 ((newF w h s).W), .int .i64 ((newF w h s).H), v1, v2, v3], .int .i64 (newE w h)]) ∧ Kept (fun _ => False) w0 w' ∧ (Owb w' T1 v1 ((newF w h s).p0) ∧ Grew w0 noB T1) ∧ (Owb w' T2 v2 ((newF w h s).p1) ∧ Grew w0 noB T2) ∧ (Owb w' T3 v3 ((newF w h s).p2) ∧ Grew w0 noB T3) ∧ Apart T1 T2 ∧ Apart T1 T3 ∧ Apart T2 T3 := by
 refine calls_wq (args := [iv w, iv h, .int .u8 ((s : Nat) : Int)]) 55 Tryz.func25 rfl rfl (Nat.le_of_ble_eq_true rfl) ?_
 have K0 := Kept.refl (fun _ => False) w0
 refine wq_seq (wq_region (wl_alloc_stc (n := 5) (vs := [iv 0, iv 0, .slice none 0 0, .slice none 0 0, .slice none 0 0]) rfl rfl rfl (by kernel_rfl) fun p1 w2 B4 g5 k3 => ?_))
 have gr6 : Grew w0 noB (onB p1) := Grew.new K0 g5
 have K7 := K0.tr k3
 refine wl_v (iv 0) rfl rfl (y_asg rfl rfl rr) (wl_nil fun F8 hF9 => ?_)
 have s10 : F8 0 = iv w := (hF9 0).trans rfl
 have s11 : F8 1 = iv h := (hF9 1).trans rfl
 have s12 : F8 2 = .int .u8 ((s : Nat) : Int) := (hF9 2).trans rfl
 have s13 : F8 55 = undef := (hF9 55).trans rfl
 have s14 : F8 6 = pt p1 0 := (hF9 6).trans rfl
 clear hF9
 refine then_normal (wq_seq (wq_seq ?_))
 rcases Bool.eq_false_or_eq_true (sideB w) with d15 | d15
 ·skip
  rcases Bool.eq_false_or_eq_true (sideB h) with d16 | d16
  ·skip
   refine wq_region (wl_mv rfl rfl rfl s10 (wl_call (R := fun v_ w_ => v_ = .bool true ∧ Kept (fun _ => False) w2 w_) rfl rfl (y_cs rfl rfl rfl (fun _ _ => by kernel_rfl) (ev_func _) (vsC rfl vsN) (ps_side w  _   ) (fun e_ w_ h_ => ⟨_, h_.1, (congrArg Value.bool d15), h_.2⟩)) ?_))
   rintro _ w17 ⟨rfl, k18⟩
   have B19 := B4.all k18 id
   have K20 := K7.tr k18
   refine wl_v (.bool false) rfl rfl (y_not rfl rfl rfl rr) (wl_v (.bool false) rfl rfl (y_mov rfl rfl rr) (wl_vw (iv h) 3 false 17 rfl rfl rfl rfl rfl (y_mov rfl s11 rr) (wl_callw (R := fun v_ w_ => v_ = .bool true ∧ Kept (fun _ => False) w17 w_) 3 false 17 rfl rfl rfl rfl rfl (y_cs rfl rfl rfl (fun _ _ => by kernel_rfl) (ev_func _) (vsC rfl vsN) (ps_side h  _   ) (fun e_ w_ h_ => ⟨_, h_.1, (congrArg Value.bool d16), h_.2⟩)) ?_)))
   rintro _ w21 ⟨rfl, k22⟩
   have B23 := B19.all k22 id
   have K24 := K20.tr k22
   refine wl_vw (.bool false) 3 false 17 rfl rfl rfl rfl rfl (y_not rfl rfl rfl rr) (wl_v (.bool false) rfl rfl (y_pickF rfl rfl rfl rr) (wl_nil fun F25 hF26 => ?_))
   obtain ⟨s27, s28, s29, s30, s31⟩ := t5 hF26 0 s10 1 s11 2 s12 55 s13 6 s14
   have s32 : F25 21 = .bool false := (hF26 21).trans rfl
   clear hF26
   refine then_normal ?_
   refine wq_cond (t := false) s32 (fun e => by cases e) (fun _ => ?_)
   refine wq_skip (then_normal (wq_seq ?_))
   have hsw : sideB w = true := by assumption
   have hsh : sideB h = true := by assumption
   have hws := (sideB_iff _).1 hsw
   have hhs := (sideB_iff _).1 hsh
   obtain ⟨a, ha⟩ : ∃ n : Nat, (n : Int) = w := ⟨w.toNat, by omega⟩
   obtain ⟨b, hb⟩ : ∃ n : Nat, (n : Int) = h := ⟨h.toNat, by omega⟩
   refine wq_region (wl_mv rfl rfl rfl s27 (wl_mv rfl rfl rfl s28 (wl_call (R := fun v_ w_ => ∃ (v33 : Value) (T38 : Nat → Prop) (v34 : Value) (T39 : Nat → Prop) (v35 : Value) (T40 : Nat → Prop), .agg #[iv ((newF w h 0).W), iv ((newF w h 0).H), v33, v34, v35] = v_ ∧ Kept (fun _ => False) w21 w_ ∧ (Owb w_ T38 v33 ((newF w h 0).p0) ∧ Grew w21 noB T38) ∧ (Owb w_ T39 v34 ((newF w h 0).p1) ∧ Grew w21 noB T39) ∧ (Owb w_ T40 v35 ((newF w h 0).p2) ∧ Grew w21 noB T40) ∧ Apart T38 T39 ∧ Apart T38 T40 ∧ Apart T39 T40) rfl rfl (y_cs rfl rfl rfl (fun _ _ => by kernel_rfl) (ev_func _) (vsC rfl (vsC rfl vsN)) (ps_blank w h  _ hsw hsh  ) (fun e_ w_ h_ => by obtain ⟨v33_, T38_, v34_, T39_, v35_, T40_, he_, hr_⟩ := h_; exact ⟨_, he_, v33_, T38_, v34_, T39_, v35_, T40_, rfl, hr_⟩)) ?_)))
   rintro _ w36 ⟨v33, T38, v34, T39, v35, T40, rfl, k37, ⟨B41, g44⟩, ⟨B42, g45⟩, ⟨B43, g46⟩, ap47, ap48, ap49⟩
   have B50 := B23.all k37 id
   have K51 := K24.tr k37
   have gr52 : Grew w0 noB T38 := Grew.new K24 g44
   have ap53 : Apart T38 (onB p1) := Apart.new g44 (onB_live B23.lt)
   have gr54 : Grew w0 noB T39 := Grew.new K24 g45
   have ap55 : Apart T39 (onB p1) := Apart.new g45 (onB_live B23.lt)
   have gr56 : Grew w0 noB T40 := Grew.new K24 g46
   have ap57 : Apart T40 (onB p1) := Apart.new g46 (onB_live B23.lt)
   refine wl_alloc_stc (n := 5) (vs := [iv 0, iv 0, .slice none 0 0, .slice none 0 0, .slice none 0 0]) rfl rfl rfl (by kernel_rfl) fun p58 w59 B61 g62 k60 => ?_
   have gr63 : Grew w0 noB (onB p58) := Grew.new K51 g62
   have ap64 : Apart (onB p58) (onB p1) := Apart.new g62 (onB_live B50.lt)
   have ap65 : Apart (onB p58) T38 := Apart.new g62 B41.live
   have ap66 : Apart (onB p58) T39 := Apart.new g62 B42.live
   have ap67 : Apart (onB p58) T40 := Apart.new g62 B43.live
   have B68 := B50.all k60 id
   have B69 := B41.all k60 Apart.none
   have B70 := B42.all k60 Apart.none
   have B71 := B43.all k60 Apart.none
   have K72 := K51.tr k60
   refine wl_store_stc (us := [iv ((newF w h 0).W), iv ((newF w h 0).H), v33, v34, v35]) stcT_frame rfl rfl rfl rfl rfl B61 rfl (oneI rfl (oneI rfl (oneI B69.one (oneI B70.one (oneI B71.one oneN))))) fun w73 B74 k75 => ?_
   have B76 := B68.all k75 (ap64.symm p1 rfl)
   have B77 := B69.all k75 ap65.symm
   have B78 := B70.all k75 ap66.symm
   have B79 := B71.all k75 ap67.symm
   have K80 := K72.trans k75 (Grew.ok (S := fun _ => False) gr63 noB_le)
   refine wl_nil fun F81 hF82 => ?_
   obtain ⟨s83, s84, s85, s86⟩ := t4 hF82 0 s27 2 s29 55 s30 6 s31
   have s87 : F81 8 = pt p58 0 := (hF82 8).trans rfl
   clear hF82
   refine then_normal (wq_seq ?_)
   have s88 : F81 0 = iv ((a : Nat) : Int) := s83.trans (congrArg (Value.int .i64) (ha.symm))
   refine wq_region (wl_mv rfl rfl rfl s84 (wl_builtB1 (n := s) rfl rfl rfl rfl (by omega) (by omega) fun v89 w90 T94 B92 g93 k91 => ?_))
   have ap97 : Apart T94 T38 := Apart.new g93 B77.live
   have ap98 : Apart T94 T39 := Apart.new g93 B78.live
   have ap99 : Apart T94 T40 := Apart.new g93 B79.live
   have B101 := B76.all k91 id
   have B102 := B77.all k91 Apart.none
   have B103 := B78.all k91 Apart.none
   have B104 := B79.all k91 Apart.none
   have B105 := B74.all k91 id
   have K106 := K80.tr k91
   refine wl_mv rfl rfl rfl s88 (wl_call (R := fun v_ w_ => ∃ (v107 : Value) (T110 : Nat → Prop), v107 = v_ ∧ Kept (fun _ => False) w90 w_ ∧ (Byt w_ T110 v107 (List.replicate a s) ∧ Grew w90 noB T110)) rfl rfl (y_cs rfl rfl rfl (fun _ _ => by kernel_rfl) (ev_func _) (vsC rfl (vsC rfl vsN)) (ps_repeat v89 ([s]) s a T94 _ rfl rfl (by omega) (by omega) B92.byt ) (fun e_ w_ h_ => by obtain ⟨v107_, T110_, he_, hr_⟩ := h_; exact ⟨_, he_, v107_, T110_, rfl, hr_⟩)) ?_)
   rintro _ w108 ⟨v107, T110, rfl, k109, ⟨B111, g112⟩⟩
   have B113 := B101.all k109 id
   have B114 := B102.all k109 Apart.none
   have B115 := B103.all k109 Apart.none
   have B116 := B104.all k109 Apart.none
   have B117 := B105.all k109 id
   have B118 := B92.all k109 Apart.none
   have K119 := K106.tr k109
   have ap122 : Apart T110 T38 := Apart.new g112 B102.live
   have ap123 : Apart T110 T39 := Apart.new g112 B103.live
   have ap124 : Apart T110 T40 := Apart.new g112 B104.live
   refine wl_v v107 rfl rfl (y_asg rfl rfl rr) (wl_nil fun F127 hF128 => ?_)
   obtain ⟨s129, s130, s131⟩ := t3 hF128 55 s85 6 s86 8 s87
   have s132 : F127 9 = v107 := (hF128 9).trans rfl
   clear hF128
   refine then_normal (wq_seq (wq_seq (wq_region (wl_v (iv 0) rfl rfl (y_mov rfl rfl rr) (wl_nil fun F133 hF134 => ?_)))))
   obtain ⟨s135, s136, s137, s138⟩ := t4 hF134 55 s129 6 s130 8 s131 9 s132
   have s139 : F133 30 = iv 0 := (hF134 30).trans rfl
   clear hF134
   refine then_normal (wq_block (wq_rounds 4 (wqr_step (wq_seq (wq_region (wl_v (.bool true) rfl rfl (y_lss rfl s139 rfl rfl rr) (wl_nil fun F140 hF141 => ?_)))))))
   obtain ⟨s142, s143, s144, s145, s146⟩ := t5 hF141 55 s135 6 s136 8 s137 9 s138 30 s139
   have s147 : F140 31 = .bool true := (hF141 31).trans rfl
   clear hF141
   refine then_normal (wq_seq ?_)
   refine wq_cond (t := true) s147 (fun _ => ?_) (fun e => by cases e)
   refine wq_skip (then_normal (wq_seq (wq_block (wq_seq (wq_region (wl_mv rfl rfl rfl s146 (wl_v (iv 0) rfl rfl (y_asg rfl rfl rr) (wl_nil fun F148 hF149 => ?_))))))))
   obtain ⟨s150, s151, s152, s153, s154⟩ := t5 hF149 55 s142 6 s143 8 s144 9 s145 30 s146
   have s155 : F148 10 = iv 0 := (hF149 10).trans rfl
   clear hF149
   refine then_normal (wq_seq (wq_region (wl_v (.agg #[iv ((newF w h 0).W), iv ((newF w h 0).H), v33, v34, v35]) rfl rfl (y_load_stc stcT_frame rfl s152 B117 rr) (wl_mv rfl rfl rfl s155 (wl_cs rfl rfl rfl rfl rfl (fun _ _ => by kernel_rfl) (vsC rfl (vsC rfl vsN)) (pl_size 0 (newF w h 0) v33 v34 v35 T38 T39 T40 _  B114.byt B115.byt B116.byt ) fun w156 k157 => ?_)))))
   have B158 := B113.all k157 id
   have B159 := B114.all k157 Apart.none
   have B160 := B115.all k157 Apart.none
   have B161 := B116.all k157 Apart.none
   have B162 := B117.all k157 id
   have B163 := B118.all k157 Apart.none
   have B164 := B111.all k157 Apart.none
   have K165 := K119.tr k157
   refine wl_v (.tuple #[iv ((sizeF (newF w h 0) 0).1), iv ((sizeF (newF w h 0) 0).2)]) rfl rfl (y_mov rfl rfl rr) (wl_v (iv ((sizeF (newF w h 0) 0).1)) rfl rfl (y_ext rfl rfl rfl rr) (wl_v (iv ((sizeF (newF w h 0) 0).2)) rfl rfl (y_ext rfl rfl rfl rr) (wl_v (iv ((sizeF (newF w h 0) 0).1)) rfl rfl (y_asg rfl rfl rr) (wl_v (iv ((sizeF (newF w h 0) 0).2)) rfl rfl (y_asg rfl rfl rr) (wl_nil fun F166 hF167 => ?_)))))
   obtain ⟨s168, s169, s170, s171, s172, s173⟩ := t6 hF167 55 s150 6 s151 8 s152 9 s153 30 s154 10 s155
   have s174 : F166 11 = iv ((sizeF (newF w h 0) 0).1) := (hF167 11).trans rfl
   have s175 : F166 12 = iv ((sizeF (newF w h 0) 0).2) := (hF167 12).trans rfl
   clear hF167
   refine then_normal (wq_seq ?_)
   obtain ⟨pw0, hpw0⟩ : ∃ q, q = pn2 a (a / 2) 0 := ⟨_, rfl⟩
   obtain ⟨ph0, hph0⟩ : ∃ q, q = pn2 b (b / 2) 0 := ⟨_, rfl⟩
   have hA0 : (newF w h 0).p0 = List.replicate (ph0 * pw0) 0 := by rw [hpw0, hph0]; first | exact (new_planes 0 hsw hsh ha hb).1 | exact (new_planes 0 hsw hsh ha hb).2.1 | exact (new_planes 0 hsw hsh ha hb).2.2
   have hE0 : (newF w h s).p0 = List.replicate (ph0 * pw0) s := by rw [hpw0, hph0]; first | exact (new_planes s hsw hsh ha hb).1 | exact (new_planes s hsw hsh ha hb).2.1 | exact (new_planes s hsw hsh ha hb).2.2
   have hB0 : pw0 ≤ a ∧ pw0 ≤ 64 ∧ ph0 ≤ 64 := by have e1 := pn2_le a (a / 2) 0; have e2 := pn2_le b (b / 2) 0; omega
   have s176 : F166 11 = iv ((pw0 : Nat) : Int) := s174.trans (congrArg (Value.int .i64) (by rw [hpw0]; (refine size_fst hsw hsh ?_ ?_ ?_ ?_ ?_ 0 (by decide) ha hb <;> first | exact (new_side 0 hsw hsh).1 | exact (new_side 0 hsw hsh).2 | exact hl0 | exact hl1 | rfl)))
   have s177 : F166 12 = iv ((ph0 : Nat) : Int) := s175.trans (congrArg (Value.int .i64) (by rw [hph0]; (refine size_snd hsw hsh ?_ ?_ ?_ ?_ ?_ 0 (by decide) ha hb <;> first | exact (new_side 0 hsw hsh).1 | exact (new_side 0 hsw hsh).2 | exact hl0 | exact hl1 | rfl)))
   refine wq_region (wl_mv rfl rfl rfl s177 (wl_v (iv 0) rfl rfl (y_mov rfl rfl rr) (wl_nil fun F178 hF179 => ?_)))
   obtain ⟨s180, s181, s182, s183, s184, s185, s186⟩ := t7 hF179 55 s168 6 s169 8 s170 9 s171 30 s172 10 s173 11 s176
   have s187 : F178 39 = iv ((ph0 : Nat) : Int) := (hF179 39).trans rfl
   have s188 : F178 40 = iv 0 := (hF179 40).trans rfl
   clear hF179
   refine then_normal (wq_block (wq_loop (fun nn FF ww => ∃ (y : Nat), ∃ (T189 : Nat → Prop), (y ≤ ph0) ∧ nn = ph0 - y ∧ FF 6 = pt p1 0 ∧ FF 8 = pt p58 0 ∧ FF 9 = v107 ∧ FF 10 = iv 0 ∧ FF 11 = iv ((pw0 : Nat) : Int) ∧ FF 30 = iv 0 ∧ FF 39 = iv ((ph0 : Nat) : Int) ∧ FF 55 = undef ∧ FF 40 = iv ((y : Nat) : Int) ∧ Kept (fun _ => False) w0 ww ∧ Stc ww p1 29 [iv 0, iv 0, .slice none 0 0, .slice none 0 0, .slice none 0 0] ∧ Owb ww T189 v33 (fillL (ph0 * pw0) s (y * pw0)) ∧ Owb ww T39 v34 ((newF w h 0).p1) ∧ Owb ww T40 v35 ((newF w h 0).p2) ∧ Stc ww p58 29 [iv ((newF w h 0).W), iv ((newF w h 0).H), v33, v34, v35] ∧ Owb ww T94 v89 ([s]) ∧ Byt ww T110 v107 (List.replicate a s) ∧ Grew w0 noB T189 ∧ Apart T189 (onB p1) ∧ Apart T189 T39 ∧ Apart T189 T40 ∧ Apart T189 (onB p58) ∧ Apart T189 T94 ∧ Apart T189 T110) (ph0 - 0) ⟨0, T38, by omega, rfl, s181, s182, s183, s185, s186, s184, s187, s180, s188, K165, B158, Owb.of_eq (fill_start hA0) B159, B160, B161, B162, B163, B164, gr52, ap53, ap47, ap48, ap65.symm, ap97.symm, ap122.symm⟩ ?_))
   rintro n193 F190 w191 ⟨y, T189, i194, hn193, s195, s196, s197, s198, s199, s200, s201, s202, s203, K192, B204, B205, B206, B207, B208, B209, B210, gr211, ap212, ap213, ap214, ap215, ap216, ap217⟩
   refine wq_seq (wq_region (wl_v (.bool (decide (((y : Nat) : Int) < ((ph0 : Nat) : Int)))) rfl rfl (y_lss rfl s203 s201 rfl rr) (wl_nil fun F218 hF219 => ?_)))
   obtain ⟨s220, s221, s222, s223, s224, s225, s226, s227, s228⟩ := t9 hF219 6 s195 8 s196 9 s197 10 s198 11 s199 30 s200 39 s201 55 s202 40 s203
   have s229 : F218 41 = .bool (decide (((y : Nat) : Int) < ((ph0 : Nat) : Int))) := (hF219 41).trans rfl
   clear hF219
   refine then_normal (wq_seq ?_)
   refine wq_cond s229 (fun c230 => ?_) (fun c230 => ?_)
   ·replace c230 := of_decide_eq_true c230
    refine wq_skip (then_normal (wq_seq (wq_block (wq_seq (wq_region (wl_mv rfl rfl rfl s228 (wl_v (iv ((y : Nat) : Int)) rfl rfl (y_asg rfl rfl rr) (wl_nil fun F231 hF232 => ?_))))))))
    obtain ⟨s233, s234, s235, s236, s237, s238, s239, s240, s241⟩ := t9 hF232 6 s220 8 s221 9 s222 10 s223 11 s224 30 s225 39 s226 55 s227 40 s228
    have s242 : F231 13 = iv ((y : Nat) : Int) := (hF232 13).trans rfl
    clear hF232
    refine then_normal ?_
    have hz := row_fact (y := y) (pw := pw0) (ph := ph0) (by omega) hB0.2.1 hB0.2.2
    have hfl : (fillL (ph0 * pw0) s (y * pw0)).length = ph0 * pw0 := fill_length (by omega)
    refine wq_region (wl_mv rfl rfl rfl s236 (wl_v (pt p58 2) rfl rfl (y_fieldR (n := 3) rfl s234 Tryz.underlying29 rfl (by kernel_rfl) (by decide) rfl rr) (wl_v (pt p58 2) rfl rfl (y_atR 0 (s := 1) rfl rfl rfl (by omega) Tryz.underlying27 (by omega) (by kernel_rfl) (by omega) rr) (wl_v v33 rfl rfl (y_ld_stc rfl rfl Tryz.underlying26 B208 rfl rfl rr) (wl_mv rfl rfl rfl s237 (wl_mv rfl rfl rfl s242 (wl_cs rfl rfl rfl rfl rfl (fun _ _ => by kernel_rfl) (vsC rfl (vsC rfl (vsC rfl vsN))) (ps_row v33 (fillL (ph0 * pw0) s (y * pw0)) ((pw0 : Nat) : Int) ((y : Nat) : Int) T189 _ (by omega) (by omega) (by rw [hfl]; exact hz.2.2.2) (by omega) B205.byt ) fun w243 k244 => ?_)))))))
    have B245 := B204.all k244 id
    have B246 := B205.all k244 Apart.none
    have B247 := B206.all k244 Apart.none
    have B248 := B207.all k244 Apart.none
    have B249 := B208.all k244 id
    have B250 := B209.all k244 Apart.none
    have B251 := B210.all k244 Apart.none
    have K252 := K192.tr k244
    refine wl_mv rfl rfl rfl s235 (wl_copyM rfl rfl rfl rfl rfl (part_sub B246.byt (by omega)) rfl B246 B251 (by rw [hfl]; omega) fun w254 B256 k255 => ?_)
    have B259 := B245.all k255 (ap212.symm p1 rfl)
    have B260 := B247.all k255 ap213.symm
    have B261 := B248.all k255 ap214.symm
    have B262 := B249.all k255 (ap215.symm p58 rfl)
    have B263 := B250.all k255 ap216.symm
    have B264 := B251.all k255 ap217.symm
    have K265 := K252.trans k255 (Grew.ok (S := fun _ => False) gr211 noB_le)
    refine wl_nil fun F266 hF267 => ?_
    obtain ⟨s268, s269, s270, s271, s272, s273, s274, s275, s276⟩ := t9 hF267 6 s233 8 s234 9 s235 10 s236 11 s237 30 s238 39 s239 55 s240 40 s241
    clear hF267
    refine in_normal (then_normal (wq_region (wl_v (iv ((y + 1 : Nat) : Int)) rfl rfl (y_add rfl s276 rfl (i64_n (by omega) (by omega)) rr) (wl_v (iv ((y + 1 : Nat) : Int)) rfl rfl (y_mov rfl rfl rr) (wl_nil fun F277 hF278 => ?_)))))
    obtain ⟨s279, s280, s281, s282, s283, s284, s285, s286⟩ := t8 hF278 6 s268 8 s269 9 s270 10 s271 11 s272 30 s273 39 s274 55 s275
    have s287 : F277 40 = iv ((y + 1 : Nat) : Int) := (hF278 40).trans rfl
    clear hF278
    exact then_normal ⟨(ph0 - (y + 1)), by omega, y + 1, T189, by omega, rfl, s279, s280, s281, s282, s283, s284, s285, s286, s287, K265, B259, Owb.of_eq (fill_next hB0.1) B256, B260, B261, B262, B263, B264, gr211, ap212, ap213, ap214, ap215, ap216, ap217⟩
   ·replace c230 := of_decide_eq_false c230
    refine wq_exit (then_exit (then_exit ?_))
    have l288 : ph0 = y := by omega
    subst l288
    have hl0 : (fillL (ph0 * pw0) s (ph0 * pw0)).length = (newF w h 0).p0.length := by rw [fill_length (Nat.le_refl _), hA0, List.length_replicate]
    refine in_here (in_normal (then_normal (wq_region (wl_v (iv ((1 : Nat) : Int)) rfl rfl (y_add rfl s225 rfl (i64_n (by omega) (by omega)) rr) (wl_v (iv ((1 : Nat) : Int)) rfl rfl (y_mov rfl rfl rr) (wl_nil fun F289 hF290 => ?_))))))
    obtain ⟨s291, s292, s293, s294⟩ := t4 hF290 6 s220 8 s221 9 s222 55 s227
    have s295 : F289 30 = iv ((1 : Nat) : Int) := (hF290 30).trans rfl
    clear hF290
    refine then_normal (wqr_step (wq_seq (wq_region (wl_v (.bool true) rfl rfl (y_lss rfl s295 rfl rfl rr) (wl_nil fun F296 hF297 => ?_)))))
    obtain ⟨s298, s299, s300, s301, s302⟩ := t5 hF297 6 s291 8 s292 9 s293 55 s294 30 s295
    have s303 : F296 31 = .bool true := (hF297 31).trans rfl
    clear hF297
    refine then_normal (wq_seq ?_)
    refine wq_cond (t := true) s303 (fun _ => ?_) (fun e => by cases e)
    refine wq_skip (then_normal (wq_seq (wq_block (wq_seq (wq_region (wl_mv rfl rfl rfl s302 (wl_v (iv ((1 : Nat) : Int)) rfl rfl (y_asg rfl rfl rr) (wl_nil fun F304 hF305 => ?_))))))))
    obtain ⟨s306, s307, s308, s309, s310⟩ := t5 hF305 6 s298 8 s299 9 s300 55 s301 30 s302
    have s311 : F304 10 = iv ((1 : Nat) : Int) := (hF305 10).trans rfl
    clear hF305
    refine then_normal (wq_seq (wq_region (wl_v (.agg #[iv ((newF w h 0).W), iv ((newF w h 0).H), v33, v34, v35]) rfl rfl (y_load_stc stcT_frame rfl s307 B208 rr) (wl_mv rfl rfl rfl s311 (wl_cs rfl rfl rfl rfl rfl (fun _ _ => by kernel_rfl) (vsC rfl (vsC rfl vsN)) (pl_size ((1 : Nat) : Int) (FD.mk ((newF w h 0).W) ((newF w h 0).H) (fillL (ph0 * pw0) s (ph0 * pw0)) ((newF w h 0).p1) ((newF w h 0).p2)) v33 v34 v35 T189 T39 T40 _  B205.byt B206.byt B207.byt ) fun w312 k313 => ?_)))))
    have B314 := B204.all k313 id
    have B315 := B205.all k313 Apart.none
    have B316 := B206.all k313 Apart.none
    have B317 := B207.all k313 Apart.none
    have B318 := B208.all k313 id
    have B319 := B209.all k313 Apart.none
    have B320 := B210.all k313 Apart.none
    have K321 := K192.tr k313
    refine wl_v (.tuple #[iv ((sizeF (FD.mk ((newF w h 0).W) ((newF w h 0).H) (fillL (ph0 * pw0) s (ph0 * pw0)) ((newF w h 0).p1) ((newF w h 0).p2)) ((1 : Nat) : Int)).1), iv ((sizeF (FD.mk ((newF w h 0).W) ((newF w h 0).H) (fillL (ph0 * pw0) s (ph0 * pw0)) ((newF w h 0).p1) ((newF w h 0).p2)) ((1 : Nat) : Int)).2)]) rfl rfl (y_mov rfl rfl rr) (wl_v (iv ((sizeF (FD.mk ((newF w h 0).W) ((newF w h 0).H) (fillL (ph0 * pw0) s (ph0 * pw0)) ((newF w h 0).p1) ((newF w h 0).p2)) ((1 : Nat) : Int)).1)) rfl rfl (y_ext rfl rfl rfl rr) (wl_v (iv ((sizeF (FD.mk ((newF w h 0).W) ((newF w h 0).H) (fillL (ph0 * pw0) s (ph0 * pw0)) ((newF w h 0).p1) ((newF w h 0).p2)) ((1 : Nat) : Int)).2)) rfl rfl (y_ext rfl rfl rfl rr) (wl_v (iv ((sizeF (FD.mk ((newF w h 0).W) ((newF w h 0).H) (fillL (ph0 * pw0) s (ph0 * pw0)) ((newF w h 0).p1) ((newF w h 0).p2)) ((1 : Nat) : Int)).1)) rfl rfl (y_asg rfl rfl rr) (wl_v (iv ((sizeF (FD.mk ((newF w h 0).W) ((newF w h 0).H) (fillL (ph0 * pw0) s (ph0 * pw0)) ((newF w h 0).p1) ((newF w h 0).p2)) ((1 : Nat) : Int)).2)) rfl rfl (y_asg rfl rfl rr) (wl_nil fun F322 hF323 => ?_)))))
    obtain ⟨s324, s325, s326, s327, s328, s329⟩ := t6 hF323 6 s306 8 s307 9 s308 55 s309 30 s310 10 s311
    have s330 : F322 11 = iv ((sizeF (FD.mk ((newF w h 0).W) ((newF w h 0).H) (fillL (ph0 * pw0) s (ph0 * pw0)) ((newF w h 0).p1) ((newF w h 0).p2)) ((1 : Nat) : Int)).1) := (hF323 11).trans rfl
    have s331 : F322 12 = iv ((sizeF (FD.mk ((newF w h 0).W) ((newF w h 0).H) (fillL (ph0 * pw0) s (ph0 * pw0)) ((newF w h 0).p1) ((newF w h 0).p2)) ((1 : Nat) : Int)).2) := (hF323 12).trans rfl
    clear hF323
    refine then_normal (wq_seq ?_)
    obtain ⟨pw1, hpw1⟩ : ∃ q, q = pn2 a (a / 2) 1 := ⟨_, rfl⟩
    obtain ⟨ph1, hph1⟩ : ∃ q, q = pn2 b (b / 2) 1 := ⟨_, rfl⟩
    have hA1 : (newF w h 0).p1 = List.replicate (ph1 * pw1) 0 := by rw [hpw1, hph1]; first | exact (new_planes 0 hsw hsh ha hb).1 | exact (new_planes 0 hsw hsh ha hb).2.1 | exact (new_planes 0 hsw hsh ha hb).2.2
    have hE1 : (newF w h s).p1 = List.replicate (ph1 * pw1) s := by rw [hpw1, hph1]; first | exact (new_planes s hsw hsh ha hb).1 | exact (new_planes s hsw hsh ha hb).2.1 | exact (new_planes s hsw hsh ha hb).2.2
    have hB1 : pw1 ≤ a ∧ pw1 ≤ 64 ∧ ph1 ≤ 64 := by have e1 := pn2_le a (a / 2) 1; have e2 := pn2_le b (b / 2) 1; omega
    have s332 : F322 11 = iv ((pw1 : Nat) : Int) := s330.trans (congrArg (Value.int .i64) (by rw [hpw1]; (refine size_fst hsw hsh ?_ ?_ ?_ ?_ ?_ 1 (by decide) ha hb <;> first | exact (new_side 0 hsw hsh).1 | exact (new_side 0 hsw hsh).2 | exact hl0 | exact hl1 | rfl)))
    have s333 : F322 12 = iv ((ph1 : Nat) : Int) := s331.trans (congrArg (Value.int .i64) (by rw [hph1]; (refine size_snd hsw hsh ?_ ?_ ?_ ?_ ?_ 1 (by decide) ha hb <;> first | exact (new_side 0 hsw hsh).1 | exact (new_side 0 hsw hsh).2 | exact hl0 | exact hl1 | rfl)))
    refine wq_region (wl_mv rfl rfl rfl s333 (wl_v (iv 0) rfl rfl (y_mov rfl rfl rr) (wl_nil fun F334 hF335 => ?_)))
    obtain ⟨s336, s337, s338, s339, s340, s341, s342⟩ := t7 hF335 6 s324 8 s325 9 s326 55 s327 30 s328 10 s329 11 s332
    have s343 : F334 39 = iv ((ph1 : Nat) : Int) := (hF335 39).trans rfl
    have s344 : F334 40 = iv 0 := (hF335 40).trans rfl
    clear hF335
    refine then_normal (wq_block (wq_loop (fun nn FF ww => ∃ (y : Nat), ∃ (T345 : Nat → Prop), (y ≤ ph1) ∧ nn = ph1 - y ∧ FF 6 = pt p1 0 ∧ FF 8 = pt p58 0 ∧ FF 9 = v107 ∧ FF 10 = iv ((1 : Nat) : Int) ∧ FF 11 = iv ((pw1 : Nat) : Int) ∧ FF 30 = iv ((1 : Nat) : Int) ∧ FF 39 = iv ((ph1 : Nat) : Int) ∧ FF 55 = undef ∧ FF 40 = iv ((y : Nat) : Int) ∧ Kept (fun _ => False) w0 ww ∧ Stc ww p1 29 [iv 0, iv 0, .slice none 0 0, .slice none 0 0, .slice none 0 0] ∧ Owb ww T189 v33 (fillL (ph0 * pw0) s (ph0 * pw0)) ∧ Owb ww T345 v34 (fillL (ph1 * pw1) s (y * pw1)) ∧ Owb ww T40 v35 ((newF w h 0).p2) ∧ Stc ww p58 29 [iv ((newF w h 0).W), iv ((newF w h 0).H), v33, v34, v35] ∧ Owb ww T94 v89 ([s]) ∧ Byt ww T110 v107 (List.replicate a s) ∧ Grew w0 noB T345 ∧ Apart T345 (onB p1) ∧ Apart T345 T189 ∧ Apart T345 T40 ∧ Apart T345 (onB p58) ∧ Apart T345 T94 ∧ Apart T345 T110) (ph1 - 0) ⟨0, T39, by omega, rfl, s336, s337, s338, s341, s342, s340, s343, s339, s344, K321, B314, B315, Owb.of_eq (fill_start hA1) B316, B317, B318, B319, B320, gr54, ap55, ap213.symm, ap49, ap66.symm, ap98.symm, ap123.symm⟩ ?_))
    rintro n349 F346 w347 ⟨y, T345, i350, hn349, s351, s352, s353, s354, s355, s356, s357, s358, s359, K348, B360, B361, B362, B363, B364, B365, B366, gr367, ap368, ap369, ap370, ap371, ap372, ap373⟩
    refine wq_seq (wq_region (wl_v (.bool (decide (((y : Nat) : Int) < ((ph1 : Nat) : Int)))) rfl rfl (y_lss rfl s359 s357 rfl rr) (wl_nil fun F374 hF375 => ?_)))
    obtain ⟨s376, s377, s378, s379, s380, s381, s382, s383, s384⟩ := t9 hF375 6 s351 8 s352 9 s353 10 s354 11 s355 30 s356 39 s357 55 s358 40 s359
    have s385 : F374 41 = .bool (decide (((y : Nat) : Int) < ((ph1 : Nat) : Int))) := (hF375 41).trans rfl
    clear hF375
    refine then_normal (wq_seq ?_)
    refine wq_cond s385 (fun c386 => ?_) (fun c386 => ?_)
    ·replace c386 := of_decide_eq_true c386
     refine wq_skip (then_normal (wq_seq (wq_block (wq_seq (wq_region (wl_mv rfl rfl rfl s384 (wl_v (iv ((y : Nat) : Int)) rfl rfl (y_asg rfl rfl rr) (wl_nil fun F387 hF388 => ?_))))))))
     obtain ⟨s389, s390, s391, s392, s393, s394, s395, s396, s397⟩ := t9 hF388 6 s376 8 s377 9 s378 10 s379 11 s380 30 s381 39 s382 55 s383 40 s384
     have s398 : F387 13 = iv ((y : Nat) : Int) := (hF388 13).trans rfl
     clear hF388
     refine then_normal ?_
     have hz := row_fact (y := y) (pw := pw1) (ph := ph1) (by omega) hB1.2.1 hB1.2.2
     have hfl : (fillL (ph1 * pw1) s (y * pw1)).length = ph1 * pw1 := fill_length (by omega)
     refine wq_region (wl_mv rfl rfl rfl s392 (wl_v (pt p58 2) rfl rfl (y_fieldR (n := 3) rfl s390 Tryz.underlying29 rfl (by kernel_rfl) (by decide) rfl rr) (wl_v (pt p58 3) rfl rfl (y_atR 1 (s := 1) rfl rfl rfl (by omega) Tryz.underlying27 (by omega) (by kernel_rfl) (by omega) rr) (wl_v v34 rfl rfl (y_ld_stc rfl rfl Tryz.underlying26 B364 rfl rfl rr) (wl_mv rfl rfl rfl s393 (wl_mv rfl rfl rfl s398 (wl_cs rfl rfl rfl rfl rfl (fun _ _ => by kernel_rfl) (vsC rfl (vsC rfl (vsC rfl vsN))) (ps_row v34 (fillL (ph1 * pw1) s (y * pw1)) ((pw1 : Nat) : Int) ((y : Nat) : Int) T345 _ (by omega) (by omega) (by rw [hfl]; exact hz.2.2.2) (by omega) B362.byt ) fun w399 k400 => ?_)))))))
     have B401 := B360.all k400 id
     have B402 := B361.all k400 Apart.none
     have B403 := B362.all k400 Apart.none
     have B404 := B363.all k400 Apart.none
     have B405 := B364.all k400 id
     have B406 := B365.all k400 Apart.none
     have B407 := B366.all k400 Apart.none
     have K408 := K348.tr k400
     refine wl_mv rfl rfl rfl s391 (wl_copyM rfl rfl rfl rfl rfl (part_sub B403.byt (by omega)) rfl B403 B407 (by rw [hfl]; omega) fun w410 B412 k411 => ?_)
     have B415 := B401.all k411 (ap368.symm p1 rfl)
     have B416 := B402.all k411 ap369.symm
     have B417 := B404.all k411 ap370.symm
     have B418 := B405.all k411 (ap371.symm p58 rfl)
     have B419 := B406.all k411 ap372.symm
     have B420 := B407.all k411 ap373.symm
     have K421 := K408.trans k411 (Grew.ok (S := fun _ => False) gr367 noB_le)
     refine wl_nil fun F422 hF423 => ?_
     obtain ⟨s424, s425, s426, s427, s428, s429, s430, s431, s432⟩ := t9 hF423 6 s389 8 s390 9 s391 10 s392 11 s393 30 s394 39 s395 55 s396 40 s397
     clear hF423
     refine in_normal (then_normal (wq_region (wl_v (iv ((y + 1 : Nat) : Int)) rfl rfl (y_add rfl s432 rfl (i64_n (by omega) (by omega)) rr) (wl_v (iv ((y + 1 : Nat) : Int)) rfl rfl (y_mov rfl rfl rr) (wl_nil fun F433 hF434 => ?_)))))
     obtain ⟨s435, s436, s437, s438, s439, s440, s441, s442⟩ := t8 hF434 6 s424 8 s425 9 s426 10 s427 11 s428 30 s429 39 s430 55 s431
     have s443 : F433 40 = iv ((y + 1 : Nat) : Int) := (hF434 40).trans rfl
     clear hF434
     exact then_normal ⟨(ph1 - (y + 1)), by omega, y + 1, T345, by omega, rfl, s435, s436, s437, s438, s439, s440, s441, s442, s443, K421, B415, B416, Owb.of_eq (fill_next hB1.1) B412, B417, B418, B419, B420, gr367, ap368, ap369, ap370, ap371, ap372, ap373⟩
    ·replace c386 := of_decide_eq_false c386
     refine wq_exit (then_exit (then_exit ?_))
     have l444 : ph1 = y := by omega
     subst l444
     have hl1 : (fillL (ph1 * pw1) s (ph1 * pw1)).length = (newF w h 0).p1.length := by rw [fill_length (Nat.le_refl _), hA1, List.length_replicate]
     refine in_here (in_normal (then_normal (wq_region (wl_v (iv ((2 : Nat) : Int)) rfl rfl (y_add rfl s381 rfl (i64_n (by omega) (by omega)) rr) (wl_v (iv ((2 : Nat) : Int)) rfl rfl (y_mov rfl rfl rr) (wl_nil fun F445 hF446 => ?_))))))
     obtain ⟨s447, s448, s449, s450⟩ := t4 hF446 6 s376 8 s377 9 s378 55 s383
     have s451 : F445 30 = iv ((2 : Nat) : Int) := (hF446 30).trans rfl
     clear hF446
     refine then_normal (wqr_step (wq_seq (wq_region (wl_v (.bool true) rfl rfl (y_lss rfl s451 rfl rfl rr) (wl_nil fun F452 hF453 => ?_)))))
     obtain ⟨s454, s455, s456, s457, s458⟩ := t5 hF453 6 s447 8 s448 9 s449 55 s450 30 s451
     have s459 : F452 31 = .bool true := (hF453 31).trans rfl
     clear hF453
     refine then_normal (wq_seq ?_)
     refine wq_cond (t := true) s459 (fun _ => ?_) (fun e => by cases e)
     refine wq_skip (then_normal (wq_seq (wq_block (wq_seq (wq_region (wl_mv rfl rfl rfl s458 (wl_v (iv ((2 : Nat) : Int)) rfl rfl (y_asg rfl rfl rr) (wl_nil fun F460 hF461 => ?_))))))))
     obtain ⟨s462, s463, s464, s465, s466⟩ := t5 hF461 6 s454 8 s455 9 s456 55 s457 30 s458
     have s467 : F460 10 = iv ((2 : Nat) : Int) := (hF461 10).trans rfl
     clear hF461
     refine then_normal (wq_seq (wq_region (wl_v (.agg #[iv ((newF w h 0).W), iv ((newF w h 0).H), v33, v34, v35]) rfl rfl (y_load_stc stcT_frame rfl s463 B364 rr) (wl_mv rfl rfl rfl s467 (wl_cs rfl rfl rfl rfl rfl (fun _ _ => by kernel_rfl) (vsC rfl (vsC rfl vsN)) (pl_size ((2 : Nat) : Int) (FD.mk ((newF w h 0).W) ((newF w h 0).H) (fillL (ph0 * pw0) s (ph0 * pw0)) (fillL (ph1 * pw1) s (ph1 * pw1)) ((newF w h 0).p2)) v33 v34 v35 T189 T345 T40 _  B361.byt B362.byt B363.byt ) fun w468 k469 => ?_)))))
     have B470 := B360.all k469 id
     have B471 := B361.all k469 Apart.none
     have B472 := B362.all k469 Apart.none
     have B473 := B363.all k469 Apart.none
     have B474 := B364.all k469 id
     have B475 := B365.all k469 Apart.none
     have B476 := B366.all k469 Apart.none
     have K477 := K348.tr k469
     refine wl_v (.tuple #[iv ((sizeF (FD.mk ((newF w h 0).W) ((newF w h 0).H) (fillL (ph0 * pw0) s (ph0 * pw0)) (fillL (ph1 * pw1) s (ph1 * pw1)) ((newF w h 0).p2)) ((2 : Nat) : Int)).1), iv ((sizeF (FD.mk ((newF w h 0).W) ((newF w h 0).H) (fillL (ph0 * pw0) s (ph0 * pw0)) (fillL (ph1 * pw1) s (ph1 * pw1)) ((newF w h 0).p2)) ((2 : Nat) : Int)).2)]) rfl rfl (y_mov rfl rfl rr) (wl_v (iv ((sizeF (FD.mk ((newF w h 0).W) ((newF w h 0).H) (fillL (ph0 * pw0) s (ph0 * pw0)) (fillL (ph1 * pw1) s (ph1 * pw1)) ((newF w h 0).p2)) ((2 : Nat) : Int)).1)) rfl rfl (y_ext rfl rfl rfl rr) (wl_v (iv ((sizeF (FD.mk ((newF w h 0).W) ((newF w h 0).H) (fillL (ph0 * pw0) s (ph0 * pw0)) (fillL (ph1 * pw1) s (ph1 * pw1)) ((newF w h 0).p2)) ((2 : Nat) : Int)).2)) rfl rfl (y_ext rfl rfl rfl rr) (wl_v (iv ((sizeF (FD.mk ((newF w h 0).W) ((newF w h 0).H) (fillL (ph0 * pw0) s (ph0 * pw0)) (fillL (ph1 * pw1) s (ph1 * pw1)) ((newF w h 0).p2)) ((2 : Nat) : Int)).1)) rfl rfl (y_asg rfl rfl rr) (wl_v (iv ((sizeF (FD.mk ((newF w h 0).W) ((newF w h 0).H) (fillL (ph0 * pw0) s (ph0 * pw0)) (fillL (ph1 * pw1) s (ph1 * pw1)) ((newF w h 0).p2)) ((2 : Nat) : Int)).2)) rfl rfl (y_asg rfl rfl rr) (wl_nil fun F478 hF479 => ?_)))))
     obtain ⟨s480, s481, s482, s483, s484, s485⟩ := t6 hF479 6 s462 8 s463 9 s464 55 s465 30 s466 10 s467
     have s486 : F478 11 = iv ((sizeF (FD.mk ((newF w h 0).W) ((newF w h 0).H) (fillL (ph0 * pw0) s (ph0 * pw0)) (fillL (ph1 * pw1) s (ph1 * pw1)) ((newF w h 0).p2)) ((2 : Nat) : Int)).1) := (hF479 11).trans rfl
     have s487 : F478 12 = iv ((sizeF (FD.mk ((newF w h 0).W) ((newF w h 0).H) (fillL (ph0 * pw0) s (ph0 * pw0)) (fillL (ph1 * pw1) s (ph1 * pw1)) ((newF w h 0).p2)) ((2 : Nat) : Int)).2) := (hF479 12).trans rfl
     clear hF479
     refine then_normal (wq_seq ?_)
     obtain ⟨pw2, hpw2⟩ : ∃ q, q = pn2 a (a / 2) 2 := ⟨_, rfl⟩
     obtain ⟨ph2, hph2⟩ : ∃ q, q = pn2 b (b / 2) 2 := ⟨_, rfl⟩
     have hA2 : (newF w h 0).p2 = List.replicate (ph2 * pw2) 0 := by rw [hpw2, hph2]; first | exact (new_planes 0 hsw hsh ha hb).1 | exact (new_planes 0 hsw hsh ha hb).2.1 | exact (new_planes 0 hsw hsh ha hb).2.2
     have hE2 : (newF w h s).p2 = List.replicate (ph2 * pw2) s := by rw [hpw2, hph2]; first | exact (new_planes s hsw hsh ha hb).1 | exact (new_planes s hsw hsh ha hb).2.1 | exact (new_planes s hsw hsh ha hb).2.2
     have hB2 : pw2 ≤ a ∧ pw2 ≤ 64 ∧ ph2 ≤ 64 := by have e1 := pn2_le a (a / 2) 2; have e2 := pn2_le b (b / 2) 2; omega
     have s488 : F478 11 = iv ((pw2 : Nat) : Int) := s486.trans (congrArg (Value.int .i64) (by rw [hpw2]; (refine size_fst hsw hsh ?_ ?_ ?_ ?_ ?_ 2 (by decide) ha hb <;> first | exact (new_side 0 hsw hsh).1 | exact (new_side 0 hsw hsh).2 | exact hl0 | exact hl1 | rfl)))
     have s489 : F478 12 = iv ((ph2 : Nat) : Int) := s487.trans (congrArg (Value.int .i64) (by rw [hph2]; (refine size_snd hsw hsh ?_ ?_ ?_ ?_ ?_ 2 (by decide) ha hb <;> first | exact (new_side 0 hsw hsh).1 | exact (new_side 0 hsw hsh).2 | exact hl0 | exact hl1 | rfl)))
     refine wq_region (wl_mv rfl rfl rfl s489 (wl_v (iv 0) rfl rfl (y_mov rfl rfl rr) (wl_nil fun F490 hF491 => ?_)))
     obtain ⟨s492, s493, s494, s495, s496, s497, s498⟩ := t7 hF491 6 s480 8 s481 9 s482 55 s483 30 s484 10 s485 11 s488
     have s499 : F490 39 = iv ((ph2 : Nat) : Int) := (hF491 39).trans rfl
     have s500 : F490 40 = iv 0 := (hF491 40).trans rfl
     clear hF491
     refine then_normal (wq_block (wq_loop (fun nn FF ww => ∃ (y : Nat), ∃ (T501 : Nat → Prop), (y ≤ ph2) ∧ nn = ph2 - y ∧ FF 6 = pt p1 0 ∧ FF 8 = pt p58 0 ∧ FF 9 = v107 ∧ FF 10 = iv ((2 : Nat) : Int) ∧ FF 11 = iv ((pw2 : Nat) : Int) ∧ FF 30 = iv ((2 : Nat) : Int) ∧ FF 39 = iv ((ph2 : Nat) : Int) ∧ FF 55 = undef ∧ FF 40 = iv ((y : Nat) : Int) ∧ Kept (fun _ => False) w0 ww ∧ Stc ww p1 29 [iv 0, iv 0, .slice none 0 0, .slice none 0 0, .slice none 0 0] ∧ Owb ww T189 v33 (fillL (ph0 * pw0) s (ph0 * pw0)) ∧ Owb ww T345 v34 (fillL (ph1 * pw1) s (ph1 * pw1)) ∧ Owb ww T501 v35 (fillL (ph2 * pw2) s (y * pw2)) ∧ Stc ww p58 29 [iv ((newF w h 0).W), iv ((newF w h 0).H), v33, v34, v35] ∧ Owb ww T94 v89 ([s]) ∧ Byt ww T110 v107 (List.replicate a s) ∧ Grew w0 noB T501 ∧ Apart T501 (onB p1) ∧ Apart T501 T189 ∧ Apart T501 T345 ∧ Apart T501 (onB p58) ∧ Apart T501 T94 ∧ Apart T501 T110) (ph2 - 0) ⟨0, T40, by omega, rfl, s492, s493, s494, s497, s498, s496, s499, s495, s500, K477, B470, B471, B472, Owb.of_eq (fill_start hA2) B473, B474, B475, B476, gr56, ap57, ap214.symm, ap370.symm, ap67.symm, ap99.symm, ap124.symm⟩ ?_))
     rintro n505 F502 w503 ⟨y, T501, i506, hn505, s507, s508, s509, s510, s511, s512, s513, s514, s515, K504, B516, B517, B518, B519, B520, B521, B522, gr523, ap524, ap525, ap526, ap527, ap528, ap529⟩
     refine wq_seq (wq_region (wl_v (.bool (decide (((y : Nat) : Int) < ((ph2 : Nat) : Int)))) rfl rfl (y_lss rfl s515 s513 rfl rr) (wl_nil fun F530 hF531 => ?_)))
     obtain ⟨s532, s533, s534, s535, s536, s537, s538, s539, s540⟩ := t9 hF531 6 s507 8 s508 9 s509 10 s510 11 s511 30 s512 39 s513 55 s514 40 s515
     have s541 : F530 41 = .bool (decide (((y : Nat) : Int) < ((ph2 : Nat) : Int))) := (hF531 41).trans rfl
     clear hF531
     refine then_normal (wq_seq ?_)
     refine wq_cond s541 (fun c542 => ?_) (fun c542 => ?_)
     ·replace c542 := of_decide_eq_true c542
      refine wq_skip (then_normal (wq_seq (wq_block (wq_seq (wq_region (wl_mv rfl rfl rfl s540 (wl_v (iv ((y : Nat) : Int)) rfl rfl (y_asg rfl rfl rr) (wl_nil fun F543 hF544 => ?_))))))))
      obtain ⟨s545, s546, s547, s548, s549, s550, s551, s552, s553⟩ := t9 hF544 6 s532 8 s533 9 s534 10 s535 11 s536 30 s537 39 s538 55 s539 40 s540
      have s554 : F543 13 = iv ((y : Nat) : Int) := (hF544 13).trans rfl
      clear hF544
      refine then_normal ?_
      have hz := row_fact (y := y) (pw := pw2) (ph := ph2) (by omega) hB2.2.1 hB2.2.2
      have hfl : (fillL (ph2 * pw2) s (y * pw2)).length = ph2 * pw2 := fill_length (by omega)
      refine wq_region (wl_mv rfl rfl rfl s548 (wl_v (pt p58 2) rfl rfl (y_fieldR (n := 3) rfl s546 Tryz.underlying29 rfl (by kernel_rfl) (by decide) rfl rr) (wl_v (pt p58 4) rfl rfl (y_atR 2 (s := 1) rfl rfl rfl (by omega) Tryz.underlying27 (by omega) (by kernel_rfl) (by omega) rr) (wl_v v35 rfl rfl (y_ld_stc rfl rfl Tryz.underlying26 B520 rfl rfl rr) (wl_mv rfl rfl rfl s549 (wl_mv rfl rfl rfl s554 (wl_cs rfl rfl rfl rfl rfl (fun _ _ => by kernel_rfl) (vsC rfl (vsC rfl (vsC rfl vsN))) (ps_row v35 (fillL (ph2 * pw2) s (y * pw2)) ((pw2 : Nat) : Int) ((y : Nat) : Int) T501 _ (by omega) (by omega) (by rw [hfl]; exact hz.2.2.2) (by omega) B519.byt ) fun w555 k556 => ?_)))))))
      have B557 := B516.all k556 id
      have B558 := B517.all k556 Apart.none
      have B559 := B518.all k556 Apart.none
      have B560 := B519.all k556 Apart.none
      have B561 := B520.all k556 id
      have B562 := B521.all k556 Apart.none
      have B563 := B522.all k556 Apart.none
      have K564 := K504.tr k556
      refine wl_mv rfl rfl rfl s547 (wl_copyM rfl rfl rfl rfl rfl (part_sub B560.byt (by omega)) rfl B560 B563 (by rw [hfl]; omega) fun w566 B568 k567 => ?_)
      have B571 := B557.all k567 (ap524.symm p1 rfl)
      have B572 := B558.all k567 ap525.symm
      have B573 := B559.all k567 ap526.symm
      have B574 := B561.all k567 (ap527.symm p58 rfl)
      have B575 := B562.all k567 ap528.symm
      have B576 := B563.all k567 ap529.symm
      have K577 := K564.trans k567 (Grew.ok (S := fun _ => False) gr523 noB_le)
      refine wl_nil fun F578 hF579 => ?_
      obtain ⟨s580, s581, s582, s583, s584, s585, s586, s587, s588⟩ := t9 hF579 6 s545 8 s546 9 s547 10 s548 11 s549 30 s550 39 s551 55 s552 40 s553
      clear hF579
      refine in_normal (then_normal (wq_region (wl_v (iv ((y + 1 : Nat) : Int)) rfl rfl (y_add rfl s588 rfl (i64_n (by omega) (by omega)) rr) (wl_v (iv ((y + 1 : Nat) : Int)) rfl rfl (y_mov rfl rfl rr) (wl_nil fun F589 hF590 => ?_)))))
      obtain ⟨s591, s592, s593, s594, s595, s596, s597, s598⟩ := t8 hF590 6 s580 8 s581 9 s582 10 s583 11 s584 30 s585 39 s586 55 s587
      have s599 : F589 40 = iv ((y + 1 : Nat) : Int) := (hF590 40).trans rfl
      clear hF590
      exact then_normal ⟨(ph2 - (y + 1)), by omega, y + 1, T501, by omega, rfl, s591, s592, s593, s594, s595, s596, s597, s598, s599, K577, B571, B572, B573, Owb.of_eq (fill_next hB2.1) B568, B574, B575, B576, gr523, ap524, ap525, ap526, ap527, ap528, ap529⟩
     ·replace c542 := of_decide_eq_false c542
      refine wq_exit (then_exit (then_exit ?_))
      have l600 : ph2 = y := by omega
      subst l600
      have hl2 : (fillL (ph2 * pw2) s (ph2 * pw2)).length = (newF w h 0).p2.length := by rw [fill_length (Nat.le_refl _), hA2, List.length_replicate]
      refine in_here (in_normal (then_normal (wq_region (wl_v (iv ((3 : Nat) : Int)) rfl rfl (y_add rfl s537 rfl (i64_n (by omega) (by omega)) rr) (wl_v (iv ((3 : Nat) : Int)) rfl rfl (y_mov rfl rfl rr) (wl_nil fun F601 hF602 => ?_))))))
      obtain ⟨s603, s604, s606⟩ := t3 hF602 6 s532 8 s533 55 s539
      have s607 : F601 30 = iv ((3 : Nat) : Int) := (hF602 30).trans rfl
      clear hF602
      refine then_normal (wqr_step (wq_seq (wq_region (wl_v (.bool false) rfl rfl (y_lss rfl s607 rfl rfl rr) (wl_nil fun F608 hF609 => ?_)))))
      obtain ⟨s610, s611, s613⟩ := t3 hF609 6 s603 8 s604 55 s606
      have s615 : F608 31 = .bool false := (hF609 31).trans rfl
      clear hF609
      refine then_normal (wq_seq ?_)
      refine wq_cond (t := false) s615 (fun e => by cases e) (fun _ => ?_)
      refine wq_exit (then_exit (then_exit (in_here (then_normal (wq_seq (wq_region (wl_v (.agg #[iv ((newF w h 0).W), iv ((newF w h 0).H), v33, v34, v35]) rfl rfl (y_load_stc stcT_frame rfl s611 B520 rr) (wl_store_stc (us := [iv ((newF w h 0).W), iv ((newF w h 0).H), v33, v34, v35]) stcT_frame rfl rfl rfl s610 rfl B516 rfl (oneI rfl (oneI rfl (oneI B517.one (oneI B518.one (oneI B519.one oneN))))) fun w616 B617 k618 => ?_))))))))
      have B619 := B517.all k618 ap212
      have B620 := B518.all k618 ap368
      have B621 := B519.all k618 ap524
      have K625 := K504.trans k618 (Grew.ok (S := fun _ => False) gr6 noB_le)
      refine wl_v (iv 0) rfl rfl (y_asg rfl rfl rr) (wl_nil fun F626 hF627 => ?_)
      obtain ⟨s628, s629⟩ := t2 hF627 6 s610 55 s613
      have s630 : F626 7 = iv 0 := (hF627 7).trans rfl
      clear hF627
      refine then_normal (wq_ret ?_)
      exact end_2 s629 rfl (res_stc (vs := [iv ((newF w h 0).W), iv ((newF w h 0).H), v33, v34, v35]) stcT_frame rfl s628 B617) (res_tmp (v := iv 0) rfl s630) ⟨v33, T189, v34, T345, v35, T501, (by first | rw [(new_side s hsw hsh).1, (new_side s hsw hsh).2, (new_side 0 hsw hsh).1, (new_side 0 hsw hsh).2, newE_yes hsw hsh] | (rw [hN, newE_no hno]; rfl)), K625, ⟨(by first | exact Owb.of_eq (fill_done hE0) B619 | (rw [hN]; exact B619)), gr211⟩, ⟨(by first | exact Owb.of_eq (fill_done hE1) B620 | (rw [hN]; exact B620)), gr367⟩, ⟨(by first | exact Owb.of_eq (fill_done hE2) B621 | (rw [hN]; exact B621)), gr523⟩, ap369.symm, ap525.symm, ap526.symm⟩
  ·skip
   refine wq_region (wl_mv rfl rfl rfl s10 (wl_call (R := fun v_ w_ => v_ = .bool true ∧ Kept (fun _ => False) w2 w_) rfl rfl (y_cs rfl rfl rfl (fun _ _ => by kernel_rfl) (ev_func _) (vsC rfl vsN) (ps_side w  _   ) (fun e_ w_ h_ => ⟨_, h_.1, (congrArg Value.bool d15), h_.2⟩)) ?_))
   rintro _ w631 ⟨rfl, k632⟩
   have B633 := B4.all k632 id
   have K634 := K7.tr k632
   refine wl_v (.bool false) rfl rfl (y_not rfl rfl rfl rr) (wl_v (.bool false) rfl rfl (y_mov rfl rfl rr) (wl_vw (iv h) 3 false 17 rfl rfl rfl rfl rfl (y_mov rfl s11 rr) (wl_callw (R := fun v_ w_ => v_ = .bool false ∧ Kept (fun _ => False) w631 w_) 3 false 17 rfl rfl rfl rfl rfl (y_cs rfl rfl rfl (fun _ _ => by kernel_rfl) (ev_func _) (vsC rfl vsN) (ps_side h  _   ) (fun e_ w_ h_ => ⟨_, h_.1, (congrArg Value.bool d16), h_.2⟩)) ?_)))
   rintro _ w635 ⟨rfl, k636⟩
   have B637 := B633.all k636 id
   have K638 := K634.tr k636
   refine wl_vw (.bool true) 3 false 17 rfl rfl rfl rfl rfl (y_not rfl rfl rfl rr) (wl_v (.bool true) rfl rfl (y_pickF rfl rfl rfl rr) (wl_nil fun F639 hF640 => ?_))
   obtain ⟨s644, s645⟩ := t2 hF640 55 s13 6 s14
   have s646 : F639 21 = .bool true := (hF640 21).trans rfl
   clear hF640
   refine then_normal ?_
   refine wq_cond (t := true) s646 (fun _ => ?_) (fun e => by cases e)
   refine wq_seq ?_
   have hno : ¬ (sideB w = true ∧ sideB h = true) := by rintro ⟨h1, h2⟩; simp_all
   have hN := newF_no s hno
   refine wq_region (wl_v (.agg #[iv 0, iv 0, .slice none 0 0, .slice none 0 0, .slice none 0 0]) rfl rfl (y_buildL (l' := []) (cells := #[iv 0, iv 0, .slice none 0 0, .slice none 0 0, .slice none 0 0]) rfl bpN (by kernel_rfl) rfl rr) (wl_store_stc (us := [iv 0, iv 0, .slice none 0 0, .slice none 0 0, .slice none 0 0]) stcT_frame rfl rfl rfl s645 rfl B637 rfl (oneI rfl (oneI rfl (oneI rfl (oneI rfl (oneI rfl oneN))))) fun w647 B648 k649 => ?_))
   have K650 := K638.trans k649 (Grew.ok (S := fun _ => False) gr6 noB_le)
   refine wl_v (iv 70) rfl rfl (y_asg rfl rfl rr) (wl_nil fun F651 hF652 => ?_)
   obtain ⟨s653, s654⟩ := t2 hF652 55 s644 6 s645
   have s655 : F651 7 = iv 70 := (hF652 7).trans rfl
   clear hF652
   refine then_normal (wq_ret (then_ret ?_))
   exact end_2 s653 rfl (res_stc (vs := [iv 0, iv 0, .slice none 0 0, .slice none 0 0, .slice none 0 0]) stcT_frame rfl s654 B648) (res_tmp (v := iv 70) rfl s655) ⟨(.slice none 0 0), noB, (.slice none 0 0), noB, (.slice none 0 0), noB, (by first | rw [(new_side s hsw hsh).1, (new_side s hsw hsh).2, (new_side 0 hsw hsh).1, (new_side 0 hsw hsh).2, newE_yes hsw hsh] | (rw [hN, newE_no hno]; rfl)), K650, ⟨(by first | exact Owb.of_eq (fill_done hE0) (Owb.nil _) | (rw [hN]; exact (Owb.nil _))), (Grew.refl _ _)⟩, ⟨(by first | exact Owb.of_eq (fill_done hE1) (Owb.nil _) | (rw [hN]; exact (Owb.nil _))), (Grew.refl _ _)⟩, ⟨(by first | exact Owb.of_eq (fill_done hE2) (Owb.nil _) | (rw [hN]; exact (Owb.nil _))), (Grew.refl _ _)⟩, Apart.none, Apart.none, Apart.none⟩
 ·skip
  refine wq_region (wl_mv rfl rfl rfl s10 (wl_call (R := fun v_ w_ => v_ = .bool false ∧ Kept (fun _ => False) w2 w_) rfl rfl (y_cs rfl rfl rfl (fun _ _ => by kernel_rfl) (ev_func _) (vsC rfl vsN) (ps_side w  _   ) (fun e_ w_ h_ => ⟨_, h_.1, (congrArg Value.bool d15), h_.2⟩)) ?_))
  rintro _ w656 ⟨rfl, k657⟩
  have B658 := B4.all k657 id
  have K659 := K7.tr k657
  refine wl_v (.bool true) rfl rfl (y_not rfl rfl rfl rr) (wl_v (.bool true) rfl rfl (y_mov rfl rfl rr) (wl_unless 3 false 17 rfl rfl rfl (Or.inl rfl) rfl (wl_unless 3 false 17 rfl rfl rfl (Or.inl rfl) rfl (wl_unless 3 false 17 rfl rfl rfl (Or.inl rfl) rfl (wl_v (.bool true) rfl rfl (y_pickT rfl rfl rfl rr) (wl_nil fun F660 hF661 => ?_))))))
  obtain ⟨s665, s666⟩ := t2 hF661 55 s13 6 s14
  have s667 : F660 21 = .bool true := (hF661 21).trans rfl
  clear hF661
  refine then_normal ?_
  refine wq_cond (t := true) s667 (fun _ => ?_) (fun e => by cases e)
  refine wq_seq ?_
  have hno : ¬ (sideB w = true ∧ sideB h = true) := by rintro ⟨h1, h2⟩; simp_all
  have hN := newF_no s hno
  refine wq_region (wl_v (.agg #[iv 0, iv 0, .slice none 0 0, .slice none 0 0, .slice none 0 0]) rfl rfl (y_buildL (l' := []) (cells := #[iv 0, iv 0, .slice none 0 0, .slice none 0 0, .slice none 0 0]) rfl bpN (by kernel_rfl) rfl rr) (wl_store_stc (us := [iv 0, iv 0, .slice none 0 0, .slice none 0 0, .slice none 0 0]) stcT_frame rfl rfl rfl s666 rfl B658 rfl (oneI rfl (oneI rfl (oneI rfl (oneI rfl (oneI rfl oneN))))) fun w668 B669 k670 => ?_))
  have K671 := K659.trans k670 (Grew.ok (S := fun _ => False) gr6 noB_le)
  refine wl_v (iv 70) rfl rfl (y_asg rfl rfl rr) (wl_nil fun F672 hF673 => ?_)
  obtain ⟨s674, s675⟩ := t2 hF673 55 s665 6 s666
  have s676 : F672 7 = iv 70 := (hF673 7).trans rfl
  clear hF673
  refine then_normal (wq_ret (then_ret ?_))
  exact end_2 s674 rfl (res_stc (vs := [iv 0, iv 0, .slice none 0 0, .slice none 0 0, .slice none 0 0]) stcT_frame rfl s675 B669) (res_tmp (v := iv 70) rfl s676) ⟨(.slice none 0 0), noB, (.slice none 0 0), noB, (.slice none 0 0), noB, (by first | rw [(new_side s hsw hsh).1, (new_side s hsw hsh).2, (new_side 0 hsw hsh).1, (new_side 0 hsw hsh).2, newE_yes hsw hsh] | (rw [hN, newE_no hno]; rfl)), K671, ⟨(by first | exact Owb.of_eq (fill_done hE0) (Owb.nil _) | (rw [hN]; exact (Owb.nil _))), (Grew.refl _ _)⟩, ⟨(by first | exact Owb.of_eq (fill_done hE1) (Owb.nil _) | (rw [hN]; exact (Owb.nil _))), (Grew.refl _ _)⟩, ⟨(by first | exact Owb.of_eq (fill_done hE2) (Owb.nil _) | (rw [hN]; exact (Owb.nil _))), (Grew.refl _ _)⟩, Apart.none, Apart.none, Apart.none⟩
end Go.Proofs.YtknjpdcpmpfklaaGreatDoor
set_option maxRecDepth 100000
namespace Go.Proofs.YtknjpdcpmpfklaaGreatDoor
open Go.RowKit
def Cob (w : World) (T : Nat → Prop) (p : Nat) (l : List Nat) : Prop := ∃ (v : Value) (Tb : Nat → Prop), (∀ i, T i ↔ (onB p i ∨ Tb i)) ∧ Apart (onB p) Tb ∧ Cel w p 26 v ∧ Owb w Tb v l
theorem Cob.live {w : World} {T : Nat → Prop} {p : Nat} {l : List Nat} (h : Cob w T p l) : Live w T := by
  obtain ⟨v, Tb, hT, _, h1, h2⟩ := h
  exact fun i hi => ((hT i).1 hi).elim (fun e => by cases e; exact h1.lt) (fun e => h2.live i e)
theorem Cob.all {S : Nat → Prop} {w w' : World} {T : Nat → Prop} {p : Nat} {l : List Nat} (h : Cob w T p l) (k : Kept S w w') (ha : Apart T S) : Cob w' T p l := by
  obtain ⟨v, Tb, hT, hap, h1, h2⟩ := h
  exact ⟨v, Tb, hT, hap, h1.all k (ha p ((hT p).2 (.inl rfl))), h2.all k (fun i hi => ha i ((hT i).2 (.inr hi)))⟩
end Go.Proofs.YtknjpdcpmpfklaaGreatDoor
set_option maxRecDepth 100000
namespace Go.Proofs.YtknjpdcpmpfklaaGreatDoor
open Go.RowKit
theorem Byt.shape {w : World} {T : Nat → Prop} {v : Value} {l : List Nat} (h : Byt w T v l) : ∃ a n c, v = .slice a n c := by
  obtain ⟨⟨a, c, e, _⟩, _⟩ := h
  exact ⟨a, _, c, e⟩
end Go.Proofs.YtknjpdcpmpfklaaGreatDoor
set_option maxRecDepth 100000
namespace Go.Proofs.YtknjpdcpmpfklaaGreatDoor
open Go.RowKit
theorem hd_within (n a b : Int) (w0 : World) :
  Calls Tryz.prog 90 #[.int .i64 (n), .int .i64 (a), .int .i64 (b)] w0 fun e w' => e = .returned (.bool (decide (a ≤ n ∧ n ≤ b))) ∧ Kept (fun _ => False) w0 w' := by
 refine calls_wq (args := [iv n, iv a, iv b]) 15 Tryz.func90 rfl rfl (Nat.le_of_ble_eq_true rfl) ?_
 have K0 := Kept.refl (fun _ => False) w0
 refine wq_seq (wq_region (wl_v (.bool false) rfl rfl (y_asg rfl rfl rr) (wl_nil fun F1 hF2 => ?_)))
 have s3 : F1 0 = iv n := (hF2 0).trans rfl
 have s4 : F1 1 = iv a := (hF2 1).trans rfl
 have s5 : F1 2 = iv b := (hF2 2).trans rfl
 have s6 : F1 15 = undef := (hF2 15).trans rfl
 clear hF2
 refine then_normal (wq_seq ?_)
 by_cases d7 : a ≤ n
 ·skip
  refine wq_region (wl_mv rfl rfl rfl s3 (wl_mv rfl rfl rfl s4 (wl_v (.bool true) rfl rfl (y_geq rfl rfl rfl (decide_eq_true d7) rr) (wl_v (.bool true) rfl rfl (y_mov rfl rfl rr) (wl_vw (iv n) 3 true 10 rfl rfl rfl rfl rfl (y_mov rfl s3 rr) (wl_vw (iv b) 3 true 10 rfl rfl rfl rfl rfl (y_mov rfl s5 rr) (wl_vw (.bool (decide (n ≤ b))) 3 true 10 rfl rfl rfl rfl rfl (y_leq rfl rfl rfl rfl rr) (wl_v (.bool (decide (n ≤ b))) rfl rfl (y_pickT rfl rfl rfl rr) (wl_v (.bool (decide (n ≤ b))) rfl rfl (y_asg rfl rfl rr) (wl_nil fun F8 hF9 => ?_))))))))))
  have s10 := (hF9 15).trans s6
  have s11 : F8 6 = .bool (decide (n ≤ b)) := (hF9 6).trans rfl
  clear hF9
  refine then_normal (wq_ret ?_)
  exact end_tmp (v := .bool (decide (n ≤ b))) s10 rfl rfl s11 ⟨(retB (by first | exact (decide_eq_true (by omega)).symm | exact (decide_eq_false (by omega)).symm | exact decide_eq_decide.2 (by omega))), K0⟩
 ·skip
  refine wq_region (wl_mv rfl rfl rfl s3 (wl_mv rfl rfl rfl s4 (wl_v (.bool false) rfl rfl (y_geq rfl rfl rfl (decide_eq_false d7) rr) (wl_v (.bool false) rfl rfl (y_mov rfl rfl rr) (wl_unless 3 true 10 rfl rfl rfl (Or.inl rfl) rfl (wl_unless 3 true 10 rfl rfl rfl (Or.inl rfl) rfl (wl_unless 3 true 10 rfl rfl rfl (Or.inl rfl) rfl (wl_v (.bool false) rfl rfl (y_pickF rfl rfl rfl rr) (wl_v (.bool false) rfl rfl (y_asg rfl rfl rr) (wl_nil fun F12 hF13 => ?_))))))))))
  have s14 := (hF13 15).trans s6
  have s15 : F12 6 = .bool false := (hF13 6).trans rfl
  clear hF13
  refine then_normal (wq_ret ?_)
  exact end_tmp (v := .bool false) s14 rfl rfl s15 ⟨(retB (by first | exact (decide_eq_true (by omega)).symm | exact (decide_eq_false (by omega)).symm | exact decide_eq_decide.2 (by omega))), K0⟩
theorem hd_side (n : Int) (w0 : World) :
  Calls Tryz.prog 89 #[.int .i64 (n)] w0 fun e w' => e = .returned (.bool (decide (sideOk n))) ∧ Kept (fun _ => False) w0 w' := by
 refine calls_wq (args := [iv n]) 10 Tryz.func89 rfl rfl (Nat.le_of_ble_eq_true rfl) ?_
 have K0 := Kept.refl (fun _ => False) w0
 refine wq_seq (wq_region (wl_v (.bool false) rfl rfl (y_asg rfl rfl rr) (wl_nil fun F1 hF2 => ?_)))
 have s3 : F1 0 = iv n := (hF2 0).trans rfl
 have s4 : F1 10 = undef := (hF2 10).trans rfl
 clear hF2
 refine then_normal (wq_seq ?_)
 by_cases d5 : 8 ≤ n ∧ n ≤ 64
 ·skip
  refine wq_region (wl_mv rfl rfl rfl s3 (wl_call (R := fun v_ w_ => v_ = .bool true ∧ Kept (fun _ => False) w0 w_) rfl rfl (y_cs rfl rfl rfl (fun _ _ => by kernel_rfl) (ev_func _) (vsC rfl (vsC rfl (vsC rfl vsN))) (hd_within n 8 64  _   ) (fun e_ w_ h_ => ⟨_, h_.1, (congrArg Value.bool (decide_eq_true d5)), h_.2⟩)) ?_))
  rintro _ w6 ⟨rfl, k7⟩
  have K8 := K0.tr k7
  refine wl_v (.bool true) rfl rfl (y_mov rfl rfl rr) (wl_vw (iv n) 2 true 5 rfl rfl rfl rfl rfl (y_mov rfl s3 rr) (wl_vw (iv (n % 8)) 2 true 5 rfl rfl rfl rfl rfl (y_rem rfl rfl rfl (by first | decide | omega) (tmod8 (by omega)) rr) (wl_vw (.bool (decide ((n % 8) = 0))) 2 true 5 rfl rfl rfl rfl rfl (y_eqlI rfl rfl rfl rfl rr) (wl_v (.bool (decide ((n % 8) = 0))) rfl rfl (y_pickT rfl rfl rfl rr) (wl_v (.bool (decide ((n % 8) = 0))) rfl rfl (y_asg rfl rfl rr) (wl_nil fun F9 hF10 => ?_))))))
  have s11 := (hF10 10).trans s4
  have s12 : F9 2 = .bool (decide ((n % 8) = 0)) := (hF10 2).trans rfl
  clear hF10
  refine then_normal (wq_ret ?_)
  exact end_tmp (v := .bool (decide ((n % 8) = 0))) s11 rfl rfl s12 ⟨(retB (by first | exact (decide_eq_true (by unfold sideOk; omega)).symm | exact (decide_eq_false (by unfold sideOk; omega)).symm | exact decide_eq_decide.2 (by unfold sideOk; omega))), K8⟩
 ·skip
  refine wq_region (wl_mv rfl rfl rfl s3 (wl_call (R := fun v_ w_ => v_ = .bool false ∧ Kept (fun _ => False) w0 w_) rfl rfl (y_cs rfl rfl rfl (fun _ _ => by kernel_rfl) (ev_func _) (vsC rfl (vsC rfl (vsC rfl vsN))) (hd_within n 8 64  _   ) (fun e_ w_ h_ => ⟨_, h_.1, (congrArg Value.bool (decide_eq_false d5)), h_.2⟩)) ?_))
  rintro _ w13 ⟨rfl, k14⟩
  have K15 := K0.tr k14
  refine wl_v (.bool false) rfl rfl (y_mov rfl rfl rr) (wl_unless 2 true 5 rfl rfl rfl (Or.inl rfl) rfl (wl_unless 2 true 5 rfl rfl rfl (Or.inl rfl) rfl (wl_unless 2 true 5 rfl rfl rfl (Or.inl rfl) rfl (wl_v (.bool false) rfl rfl (y_pickF rfl rfl rfl rr) (wl_v (.bool false) rfl rfl (y_asg rfl rfl rr) (wl_nil fun F16 hF17 => ?_))))))
  have s18 := (hF17 10).trans s4
  have s19 : F16 2 = .bool false := (hF17 2).trans rfl
  clear hF17
  refine then_normal (wq_ret ?_)
  exact end_tmp (v := .bool false) s18 rfl rfl s19 ⟨(retB (by first | exact (decide_eq_true (by unfold sideOk; omega)).symm | exact (decide_eq_false (by unfold sideOk; omega)).symm | exact decide_eq_decide.2 (by unfold sideOk; omega))), K15⟩
theorem hd_seq (W H R B : Int) (w0 : World) :
  Calls Tryz.prog 48 #[.agg #[.int .i64 (W), .int .i64 (H), .int .i64 (R), .int .i64 (B)]] w0 fun e w' => e = .returned (.int .i64 (seqE W H R B)) ∧ Kept (fun _ => False) w0 w' := by
 refine calls_wq (args := [.agg #[iv W, iv H, iv R, iv B]]) 27 Tryz.func48 rfl rfl (Nat.le_of_ble_eq_true rfl) ?_
 have K0 := Kept.refl (fun _ => False) w0
 refine wq_seq (wq_region (wl_box_stc (vs := [iv W, iv H, iv R, iv B]) rfl rfl rfl rfl fun p1 w2 B4 g5 k3 => ?_))
 have K7 := K0.tr k3
 refine wl_v (iv 0) rfl rfl (y_asg rfl rfl rr) (wl_nil fun F8 hF9 => ?_)
 have s10 : F8 27 = undef := (hF9 27).trans rfl
 have s11 : F8 1 = pt p1 0 := (hF9 1).trans rfl
 clear hF9
 refine then_normal (wq_seq (wq_seq ?_))
 by_cases d12 : sideOk W
 ·skip
  by_cases d13 : sideOk H
  ·skip
   by_cases d14 : 1 ≤ R ∧ R ≤ 16777216
   ·skip
    by_cases d15 : R ≤ B ∧ B ≤ 1073741824
    ·skip
     refine wq_region (wl_v (pt p1 0) rfl rfl (y_fieldR (n := 1) rfl s11 Tryz.underlying23 rfl (by kernel_rfl) (by decide) rfl rr) (wl_v (iv W) rfl rfl (y_ld_stc rfl rfl Tryz.underlying3 B4 rfl rfl rr) (wl_call (R := fun v_ w_ => v_ = .bool true ∧ Kept (fun _ => False) w2 w_) rfl rfl (y_cs rfl rfl rfl (fun _ _ => by kernel_rfl) (ev_func _) (vsC rfl vsN) (hd_side W  _   ) (fun e_ w_ h_ => ⟨_, h_.1, (congrArg Value.bool (decide_eq_true d12)), h_.2⟩)) ?_)))
     rintro _ w16 ⟨rfl, k17⟩
     have B18 := B4.all k17 id
     have K19 := K7.tr k17
     refine wl_v (.bool false) rfl rfl (y_not rfl rfl rfl rr) (wl_v (.bool false) rfl rfl (y_mov rfl rfl rr) (wl_vw (pt p1 1) 4 false 7 rfl rfl rfl rfl rfl (y_fieldR (n := 1) rfl s11 Tryz.underlying23 rfl (by kernel_rfl) (by decide) rfl rr) (wl_vw (iv H) 4 false 7 rfl rfl rfl rfl rfl (y_ld_stc rfl rfl Tryz.underlying3 B18 rfl rfl rr) (wl_callw (R := fun v_ w_ => v_ = .bool true ∧ Kept (fun _ => False) w16 w_) 4 false 7 rfl rfl rfl rfl rfl (y_cs rfl rfl rfl (fun _ _ => by kernel_rfl) (ev_func _) (vsC rfl vsN) (hd_side H  _   ) (fun e_ w_ h_ => ⟨_, h_.1, (congrArg Value.bool (decide_eq_true d13)), h_.2⟩)) ?_))))
     rintro _ w20 ⟨rfl, k21⟩
     have B22 := B18.all k21 id
     have K23 := K19.tr k21
     refine wl_vw (.bool false) 4 false 7 rfl rfl rfl rfl rfl (y_not rfl rfl rfl rr) (wl_v (.bool false) rfl rfl (y_pickF rfl rfl rfl rr) (wl_v (.bool false) rfl rfl (y_mov rfl rfl rr) (wl_vw (pt p1 2) 10 false 13 rfl rfl rfl rfl rfl (y_fieldR (n := 1) rfl s11 Tryz.underlying23 rfl (by kernel_rfl) (by decide) rfl rr) (wl_vw (iv R) 10 false 13 rfl rfl rfl rfl rfl (y_ld_stc rfl rfl Tryz.underlying3 B22 rfl rfl rr) (wl_callw (R := fun v_ w_ => v_ = .bool true ∧ Kept (fun _ => False) w20 w_) 10 false 13 rfl rfl rfl rfl rfl (y_cs rfl rfl rfl (fun _ _ => by kernel_rfl) (ev_func _) (vsC rfl (vsC rfl (vsC rfl vsN))) (hd_within R 1 16777216  _   ) (fun e_ w_ h_ => ⟨_, h_.1, (congrArg Value.bool (decide_eq_true d14)), h_.2⟩)) ?_)))))
     rintro _ w24 ⟨rfl, k25⟩
     have B26 := B22.all k25 id
     have K27 := K23.tr k25
     refine wl_vw (.bool false) 10 false 13 rfl rfl rfl rfl rfl (y_not rfl rfl rfl rr) (wl_v (.bool false) rfl rfl (y_pickF rfl rfl rfl rr) (wl_v (.bool false) rfl rfl (y_mov rfl rfl rr) (wl_vw (pt p1 3) 16 false 19 rfl rfl rfl rfl rfl (y_fieldR (n := 1) rfl s11 Tryz.underlying23 rfl (by kernel_rfl) (by decide) rfl rr) (wl_vw (iv B) 16 false 19 rfl rfl rfl rfl rfl (y_ld_stc rfl rfl Tryz.underlying3 B26 rfl rfl rr) (wl_vw (pt p1 2) 16 false 19 rfl rfl rfl rfl rfl (y_fieldR (n := 1) rfl s11 Tryz.underlying23 rfl (by kernel_rfl) (by decide) rfl rr) (wl_vw (iv R) 16 false 19 rfl rfl rfl rfl rfl (y_ld_stc rfl rfl Tryz.underlying3 B26 rfl rfl rr) (wl_callw (R := fun v_ w_ => v_ = .bool true ∧ Kept (fun _ => False) w24 w_) 16 false 19 rfl rfl rfl rfl rfl (y_cs rfl rfl rfl (fun _ _ => by kernel_rfl) (ev_func _) (vsC rfl (vsC rfl (vsC rfl vsN))) (hd_within B R 1073741824  _   ) (fun e_ w_ h_ => ⟨_, h_.1, (congrArg Value.bool (decide_eq_true d15)), h_.2⟩)) ?_)))))))
     rintro _ w28 ⟨rfl, k29⟩
     have K31 := K27.tr k29
     refine wl_vw (.bool false) 16 false 19 rfl rfl rfl rfl rfl (y_not rfl rfl rfl rr) (wl_v (.bool false) rfl rfl (y_pickF rfl rfl rfl rr) (wl_nil fun F32 hF33 => ?_))
     have s34 := (hF33 27).trans s10
     have s35 : F32 26 = .bool false := (hF33 26).trans rfl
     clear hF33
     refine then_normal ?_
     refine wq_cond (t := false) s35 (fun e => by cases e) (fun _ => ?_)
     refine wq_skip (then_normal (wq_seq (wq_region (wl_v (iv 0) rfl rfl (y_asg rfl rfl rr) (wl_nil fun F36 hF37 => ?_)))))
     have s38 := (hF37 27).trans s34
     have s39 : F36 2 = iv 0 := (hF37 2).trans rfl
     clear hF37
     refine then_normal (wq_ret ?_)
     exact end_tmp (v := iv 0) s38 rfl rfl s39 ⟨(by first | rw [show seqE W H R B = 0 from if_pos ⟨by assumption, by assumption, by omega, by omega, by omega, by omega⟩] | rw [show seqE W H R B = 110 from if_neg (by unfold seqOk; rintro ⟨h1, h2, h3, h4, h5, h6⟩; first | (exact absurd h1 (by assumption)) | (exact absurd h2 (by assumption)) | omega)]), K31⟩
    ·skip
     refine wq_region (wl_v (pt p1 0) rfl rfl (y_fieldR (n := 1) rfl s11 Tryz.underlying23 rfl (by kernel_rfl) (by decide) rfl rr) (wl_v (iv W) rfl rfl (y_ld_stc rfl rfl Tryz.underlying3 B4 rfl rfl rr) (wl_call (R := fun v_ w_ => v_ = .bool true ∧ Kept (fun _ => False) w2 w_) rfl rfl (y_cs rfl rfl rfl (fun _ _ => by kernel_rfl) (ev_func _) (vsC rfl vsN) (hd_side W  _   ) (fun e_ w_ h_ => ⟨_, h_.1, (congrArg Value.bool (decide_eq_true d12)), h_.2⟩)) ?_)))
     rintro _ w40 ⟨rfl, k41⟩
     have B42 := B4.all k41 id
     have K43 := K7.tr k41
     refine wl_v (.bool false) rfl rfl (y_not rfl rfl rfl rr) (wl_v (.bool false) rfl rfl (y_mov rfl rfl rr) (wl_vw (pt p1 1) 4 false 7 rfl rfl rfl rfl rfl (y_fieldR (n := 1) rfl s11 Tryz.underlying23 rfl (by kernel_rfl) (by decide) rfl rr) (wl_vw (iv H) 4 false 7 rfl rfl rfl rfl rfl (y_ld_stc rfl rfl Tryz.underlying3 B42 rfl rfl rr) (wl_callw (R := fun v_ w_ => v_ = .bool true ∧ Kept (fun _ => False) w40 w_) 4 false 7 rfl rfl rfl rfl rfl (y_cs rfl rfl rfl (fun _ _ => by kernel_rfl) (ev_func _) (vsC rfl vsN) (hd_side H  _   ) (fun e_ w_ h_ => ⟨_, h_.1, (congrArg Value.bool (decide_eq_true d13)), h_.2⟩)) ?_))))
     rintro _ w44 ⟨rfl, k45⟩
     have B46 := B42.all k45 id
     have K47 := K43.tr k45
     refine wl_vw (.bool false) 4 false 7 rfl rfl rfl rfl rfl (y_not rfl rfl rfl rr) (wl_v (.bool false) rfl rfl (y_pickF rfl rfl rfl rr) (wl_v (.bool false) rfl rfl (y_mov rfl rfl rr) (wl_vw (pt p1 2) 10 false 13 rfl rfl rfl rfl rfl (y_fieldR (n := 1) rfl s11 Tryz.underlying23 rfl (by kernel_rfl) (by decide) rfl rr) (wl_vw (iv R) 10 false 13 rfl rfl rfl rfl rfl (y_ld_stc rfl rfl Tryz.underlying3 B46 rfl rfl rr) (wl_callw (R := fun v_ w_ => v_ = .bool true ∧ Kept (fun _ => False) w44 w_) 10 false 13 rfl rfl rfl rfl rfl (y_cs rfl rfl rfl (fun _ _ => by kernel_rfl) (ev_func _) (vsC rfl (vsC rfl (vsC rfl vsN))) (hd_within R 1 16777216  _   ) (fun e_ w_ h_ => ⟨_, h_.1, (congrArg Value.bool (decide_eq_true d14)), h_.2⟩)) ?_)))))
     rintro _ w48 ⟨rfl, k49⟩
     have B50 := B46.all k49 id
     have K51 := K47.tr k49
     refine wl_vw (.bool false) 10 false 13 rfl rfl rfl rfl rfl (y_not rfl rfl rfl rr) (wl_v (.bool false) rfl rfl (y_pickF rfl rfl rfl rr) (wl_v (.bool false) rfl rfl (y_mov rfl rfl rr) (wl_vw (pt p1 3) 16 false 19 rfl rfl rfl rfl rfl (y_fieldR (n := 1) rfl s11 Tryz.underlying23 rfl (by kernel_rfl) (by decide) rfl rr) (wl_vw (iv B) 16 false 19 rfl rfl rfl rfl rfl (y_ld_stc rfl rfl Tryz.underlying3 B50 rfl rfl rr) (wl_vw (pt p1 2) 16 false 19 rfl rfl rfl rfl rfl (y_fieldR (n := 1) rfl s11 Tryz.underlying23 rfl (by kernel_rfl) (by decide) rfl rr) (wl_vw (iv R) 16 false 19 rfl rfl rfl rfl rfl (y_ld_stc rfl rfl Tryz.underlying3 B50 rfl rfl rr) (wl_callw (R := fun v_ w_ => v_ = .bool false ∧ Kept (fun _ => False) w48 w_) 16 false 19 rfl rfl rfl rfl rfl (y_cs rfl rfl rfl (fun _ _ => by kernel_rfl) (ev_func _) (vsC rfl (vsC rfl (vsC rfl vsN))) (hd_within B R 1073741824  _   ) (fun e_ w_ h_ => ⟨_, h_.1, (congrArg Value.bool (decide_eq_false d15)), h_.2⟩)) ?_)))))))
     rintro _ w52 ⟨rfl, k53⟩
     have K55 := K51.tr k53
     refine wl_vw (.bool true) 16 false 19 rfl rfl rfl rfl rfl (y_not rfl rfl rfl rr) (wl_v (.bool true) rfl rfl (y_pickF rfl rfl rfl rr) (wl_nil fun F56 hF57 => ?_))
     have s58 := (hF57 27).trans s10
     have s59 : F56 26 = .bool true := (hF57 26).trans rfl
     clear hF57
     refine then_normal ?_
     refine wq_cond (t := true) s59 (fun _ => ?_) (fun e => by cases e)
     refine wq_seq (wq_region (wl_v (iv 110) rfl rfl (y_asg rfl rfl rr) (wl_nil fun F60 hF61 => ?_)))
     have s62 := (hF61 27).trans s58
     have s63 : F60 2 = iv 110 := (hF61 2).trans rfl
     clear hF61
     refine then_normal (wq_ret (then_ret ?_))
     exact end_tmp (v := iv 110) s62 rfl rfl s63 ⟨(by first | rw [show seqE W H R B = 0 from if_pos ⟨by assumption, by assumption, by omega, by omega, by omega, by omega⟩] | rw [show seqE W H R B = 110 from if_neg (by unfold seqOk; rintro ⟨h1, h2, h3, h4, h5, h6⟩; first | (exact absurd h1 (by assumption)) | (exact absurd h2 (by assumption)) | omega)]), K55⟩
   ·skip
    refine wq_region (wl_v (pt p1 0) rfl rfl (y_fieldR (n := 1) rfl s11 Tryz.underlying23 rfl (by kernel_rfl) (by decide) rfl rr) (wl_v (iv W) rfl rfl (y_ld_stc rfl rfl Tryz.underlying3 B4 rfl rfl rr) (wl_call (R := fun v_ w_ => v_ = .bool true ∧ Kept (fun _ => False) w2 w_) rfl rfl (y_cs rfl rfl rfl (fun _ _ => by kernel_rfl) (ev_func _) (vsC rfl vsN) (hd_side W  _   ) (fun e_ w_ h_ => ⟨_, h_.1, (congrArg Value.bool (decide_eq_true d12)), h_.2⟩)) ?_)))
    rintro _ w64 ⟨rfl, k65⟩
    have B66 := B4.all k65 id
    have K67 := K7.tr k65
    refine wl_v (.bool false) rfl rfl (y_not rfl rfl rfl rr) (wl_v (.bool false) rfl rfl (y_mov rfl rfl rr) (wl_vw (pt p1 1) 4 false 7 rfl rfl rfl rfl rfl (y_fieldR (n := 1) rfl s11 Tryz.underlying23 rfl (by kernel_rfl) (by decide) rfl rr) (wl_vw (iv H) 4 false 7 rfl rfl rfl rfl rfl (y_ld_stc rfl rfl Tryz.underlying3 B66 rfl rfl rr) (wl_callw (R := fun v_ w_ => v_ = .bool true ∧ Kept (fun _ => False) w64 w_) 4 false 7 rfl rfl rfl rfl rfl (y_cs rfl rfl rfl (fun _ _ => by kernel_rfl) (ev_func _) (vsC rfl vsN) (hd_side H  _   ) (fun e_ w_ h_ => ⟨_, h_.1, (congrArg Value.bool (decide_eq_true d13)), h_.2⟩)) ?_))))
    rintro _ w68 ⟨rfl, k69⟩
    have B70 := B66.all k69 id
    have K71 := K67.tr k69
    refine wl_vw (.bool false) 4 false 7 rfl rfl rfl rfl rfl (y_not rfl rfl rfl rr) (wl_v (.bool false) rfl rfl (y_pickF rfl rfl rfl rr) (wl_v (.bool false) rfl rfl (y_mov rfl rfl rr) (wl_vw (pt p1 2) 10 false 13 rfl rfl rfl rfl rfl (y_fieldR (n := 1) rfl s11 Tryz.underlying23 rfl (by kernel_rfl) (by decide) rfl rr) (wl_vw (iv R) 10 false 13 rfl rfl rfl rfl rfl (y_ld_stc rfl rfl Tryz.underlying3 B70 rfl rfl rr) (wl_callw (R := fun v_ w_ => v_ = .bool false ∧ Kept (fun _ => False) w68 w_) 10 false 13 rfl rfl rfl rfl rfl (y_cs rfl rfl rfl (fun _ _ => by kernel_rfl) (ev_func _) (vsC rfl (vsC rfl (vsC rfl vsN))) (hd_within R 1 16777216  _   ) (fun e_ w_ h_ => ⟨_, h_.1, (congrArg Value.bool (decide_eq_false d14)), h_.2⟩)) ?_)))))
    rintro _ w72 ⟨rfl, k73⟩
    have K75 := K71.tr k73
    refine wl_vw (.bool true) 10 false 13 rfl rfl rfl rfl rfl (y_not rfl rfl rfl rr) (wl_v (.bool true) rfl rfl (y_pickF rfl rfl rfl rr) (wl_v (.bool true) rfl rfl (y_mov rfl rfl rr) (wl_unless 16 false 19 rfl rfl rfl (Or.inl rfl) rfl (wl_unless 16 false 19 rfl rfl rfl (Or.inl rfl) rfl (wl_unless 16 false 19 rfl rfl rfl (Or.inl rfl) rfl (wl_unless 16 false 19 rfl rfl rfl (Or.inl rfl) rfl (wl_unless 16 false 19 rfl rfl rfl (Or.inl rfl) rfl (wl_unless 16 false 19 rfl rfl rfl (Or.inl rfl) rfl (wl_v (.bool true) rfl rfl (y_pickT rfl rfl rfl rr) (wl_nil fun F76 hF77 => ?_))))))))))
    have s78 := (hF77 27).trans s10
    have s79 : F76 26 = .bool true := (hF77 26).trans rfl
    clear hF77
    refine then_normal ?_
    refine wq_cond (t := true) s79 (fun _ => ?_) (fun e => by cases e)
    refine wq_seq (wq_region (wl_v (iv 110) rfl rfl (y_asg rfl rfl rr) (wl_nil fun F80 hF81 => ?_)))
    have s82 := (hF81 27).trans s78
    have s83 : F80 2 = iv 110 := (hF81 2).trans rfl
    clear hF81
    refine then_normal (wq_ret (then_ret ?_))
    exact end_tmp (v := iv 110) s82 rfl rfl s83 ⟨(by first | rw [show seqE W H R B = 0 from if_pos ⟨by assumption, by assumption, by omega, by omega, by omega, by omega⟩] | rw [show seqE W H R B = 110 from if_neg (by unfold seqOk; rintro ⟨h1, h2, h3, h4, h5, h6⟩; first | (exact absurd h1 (by assumption)) | (exact absurd h2 (by assumption)) | omega)]), K75⟩
  ·skip
   refine wq_region (wl_v (pt p1 0) rfl rfl (y_fieldR (n := 1) rfl s11 Tryz.underlying23 rfl (by kernel_rfl) (by decide) rfl rr) (wl_v (iv W) rfl rfl (y_ld_stc rfl rfl Tryz.underlying3 B4 rfl rfl rr) (wl_call (R := fun v_ w_ => v_ = .bool true ∧ Kept (fun _ => False) w2 w_) rfl rfl (y_cs rfl rfl rfl (fun _ _ => by kernel_rfl) (ev_func _) (vsC rfl vsN) (hd_side W  _   ) (fun e_ w_ h_ => ⟨_, h_.1, (congrArg Value.bool (decide_eq_true d12)), h_.2⟩)) ?_)))
   rintro _ w84 ⟨rfl, k85⟩
   have B86 := B4.all k85 id
   have K87 := K7.tr k85
   refine wl_v (.bool false) rfl rfl (y_not rfl rfl rfl rr) (wl_v (.bool false) rfl rfl (y_mov rfl rfl rr) (wl_vw (pt p1 1) 4 false 7 rfl rfl rfl rfl rfl (y_fieldR (n := 1) rfl s11 Tryz.underlying23 rfl (by kernel_rfl) (by decide) rfl rr) (wl_vw (iv H) 4 false 7 rfl rfl rfl rfl rfl (y_ld_stc rfl rfl Tryz.underlying3 B86 rfl rfl rr) (wl_callw (R := fun v_ w_ => v_ = .bool false ∧ Kept (fun _ => False) w84 w_) 4 false 7 rfl rfl rfl rfl rfl (y_cs rfl rfl rfl (fun _ _ => by kernel_rfl) (ev_func _) (vsC rfl vsN) (hd_side H  _   ) (fun e_ w_ h_ => ⟨_, h_.1, (congrArg Value.bool (decide_eq_false d13)), h_.2⟩)) ?_))))
   rintro _ w88 ⟨rfl, k89⟩
   have K91 := K87.tr k89
   refine wl_vw (.bool true) 4 false 7 rfl rfl rfl rfl rfl (y_not rfl rfl rfl rr) (wl_v (.bool true) rfl rfl (y_pickF rfl rfl rfl rr) (wl_v (.bool true) rfl rfl (y_mov rfl rfl rr) (wl_unless 10 false 13 rfl rfl rfl (Or.inl rfl) rfl (wl_unless 10 false 13 rfl rfl rfl (Or.inl rfl) rfl (wl_unless 10 false 13 rfl rfl rfl (Or.inl rfl) rfl (wl_unless 10 false 13 rfl rfl rfl (Or.inl rfl) rfl (wl_v (.bool true) rfl rfl (y_pickT rfl rfl rfl rr) (wl_v (.bool true) rfl rfl (y_mov rfl rfl rr) (wl_unless 16 false 19 rfl rfl rfl (Or.inl rfl) rfl (wl_unless 16 false 19 rfl rfl rfl (Or.inl rfl) rfl (wl_unless 16 false 19 rfl rfl rfl (Or.inl rfl) rfl ?_)))))))))))
   refine wl_unless 16 false 19 rfl rfl rfl (Or.inl rfl) rfl (wl_unless 16 false 19 rfl rfl rfl (Or.inl rfl) rfl (wl_unless 16 false 19 rfl rfl rfl (Or.inl rfl) rfl (wl_v (.bool true) rfl rfl (y_pickT rfl rfl rfl rr) (wl_nil fun F92 hF93 => ?_))))
   have s94 := (hF93 27).trans s10
   have s95 : F92 26 = .bool true := (hF93 26).trans rfl
   clear hF93
   refine then_normal ?_
   refine wq_cond (t := true) s95 (fun _ => ?_) (fun e => by cases e)
   refine wq_seq (wq_region (wl_v (iv 110) rfl rfl (y_asg rfl rfl rr) (wl_nil fun F96 hF97 => ?_)))
   have s98 := (hF97 27).trans s94
   have s99 : F96 2 = iv 110 := (hF97 2).trans rfl
   clear hF97
   refine then_normal (wq_ret (then_ret ?_))
   exact end_tmp (v := iv 110) s98 rfl rfl s99 ⟨(by first | rw [show seqE W H R B = 0 from if_pos ⟨by assumption, by assumption, by omega, by omega, by omega, by omega⟩] | rw [show seqE W H R B = 110 from if_neg (by unfold seqOk; rintro ⟨h1, h2, h3, h4, h5, h6⟩; first | (exact absurd h1 (by assumption)) | (exact absurd h2 (by assumption)) | omega)]), K91⟩
 ·skip
  refine wq_region (wl_v (pt p1 0) rfl rfl (y_fieldR (n := 1) rfl s11 Tryz.underlying23 rfl (by kernel_rfl) (by decide) rfl rr) (wl_v (iv W) rfl rfl (y_ld_stc rfl rfl Tryz.underlying3 B4 rfl rfl rr) (wl_call (R := fun v_ w_ => v_ = .bool false ∧ Kept (fun _ => False) w2 w_) rfl rfl (y_cs rfl rfl rfl (fun _ _ => by kernel_rfl) (ev_func _) (vsC rfl vsN) (hd_side W  _   ) (fun e_ w_ h_ => ⟨_, h_.1, (congrArg Value.bool (decide_eq_false d12)), h_.2⟩)) ?_)))
  rintro _ w100 ⟨rfl, k101⟩
  have K103 := K7.tr k101
  refine wl_v (.bool true) rfl rfl (y_not rfl rfl rfl rr) (wl_v (.bool true) rfl rfl (y_mov rfl rfl rr) (wl_unless 4 false 7 rfl rfl rfl (Or.inl rfl) rfl (wl_unless 4 false 7 rfl rfl rfl (Or.inl rfl) rfl (wl_unless 4 false 7 rfl rfl rfl (Or.inl rfl) rfl (wl_unless 4 false 7 rfl rfl rfl (Or.inl rfl) rfl (wl_v (.bool true) rfl rfl (y_pickT rfl rfl rfl rr) (wl_v (.bool true) rfl rfl (y_mov rfl rfl rr) (wl_unless 10 false 13 rfl rfl rfl (Or.inl rfl) rfl (wl_unless 10 false 13 rfl rfl rfl (Or.inl rfl) rfl (wl_unless 10 false 13 rfl rfl rfl (Or.inl rfl) rfl (wl_unless 10 false 13 rfl rfl rfl (Or.inl rfl) rfl ?_)))))))))))
  refine wl_v (.bool true) rfl rfl (y_pickT rfl rfl rfl rr) (wl_v (.bool true) rfl rfl (y_mov rfl rfl rr) (wl_unless 16 false 19 rfl rfl rfl (Or.inl rfl) rfl (wl_unless 16 false 19 rfl rfl rfl (Or.inl rfl) rfl (wl_unless 16 false 19 rfl rfl rfl (Or.inl rfl) rfl (wl_unless 16 false 19 rfl rfl rfl (Or.inl rfl) rfl (wl_unless 16 false 19 rfl rfl rfl (Or.inl rfl) rfl (wl_unless 16 false 19 rfl rfl rfl (Or.inl rfl) rfl (wl_v (.bool true) rfl rfl (y_pickT rfl rfl rfl rr) (wl_nil fun F104 hF105 => ?_)))))))))
  have s106 := (hF105 27).trans s10
  have s107 : F104 26 = .bool true := (hF105 26).trans rfl
  clear hF105
  refine then_normal ?_
  refine wq_cond (t := true) s107 (fun _ => ?_) (fun e => by cases e)
  refine wq_seq (wq_region (wl_v (iv 110) rfl rfl (y_asg rfl rfl rr) (wl_nil fun F108 hF109 => ?_)))
  have s110 := (hF109 27).trans s106
  have s111 : F108 2 = iv 110 := (hF109 2).trans rfl
  clear hF109
  refine then_normal (wq_ret (then_ret ?_))
  exact end_tmp (v := iv 110) s110 rfl rfl s111 ⟨(by first | rw [show seqE W H R B = 0 from if_pos ⟨by assumption, by assumption, by omega, by omega, by omega, by omega⟩] | rw [show seqE W H R B = 110 from if_neg (by unfold seqOk; rintro ⟨h1, h2, h3, h4, h5, h6⟩; first | (exact absurd h1 (by assumption)) | (exact absurd h2 (by assumption)) | omega)]), K103⟩
theorem hd_head (K Q D F : Int) (w0 : World) :
  Calls Tryz.prog 57 #[.agg #[.int .i64 (K), .int .i64 (Q), .int .i64 (D), .int .i64 (F)]] w0 fun e w' => e = .returned (.int .i64 (headE K Q D F)) ∧ Kept (fun _ => False) w0 w' := by
 refine calls_wq (args := [.agg #[iv K, iv Q, iv D, iv F]]) 25 Tryz.func57 rfl rfl (Nat.le_of_ble_eq_true rfl) ?_
 have K0 := Kept.refl (fun _ => False) w0
 refine wq_seq (wq_region (wl_box_stc (vs := [iv K, iv Q, iv D, iv F]) rfl rfl rfl rfl fun p1 w2 B4 g5 k3 => ?_))
 have K7 := K0.tr k3
 refine wl_v (iv 0) rfl rfl (y_asg rfl rfl rr) (wl_nil fun F8 hF9 => ?_)
 have s10 : F8 25 = undef := (hF9 25).trans rfl
 have s11 : F8 1 = pt p1 0 := (hF9 1).trans rfl
 clear hF9
 refine then_normal (wq_seq (wq_seq ?_))
 by_cases d12 : 0 ≤ K ∧ K ≤ 2
 ·skip
  by_cases d13 : 0 ≤ Q ∧ Q ≤ 20
  ·skip
   by_cases d14 : 0 ≤ D ∧ D ≤ 16777215
   ·skip
    by_cases d15 : 0 ≤ F ∧ F ≤ 1073741824
    ·skip
     refine wq_region (wl_v (pt p1 0) rfl rfl (y_fieldR (n := 1) rfl s11 Tryz.underlying25 rfl (by kernel_rfl) (by decide) rfl rr) (wl_v (iv K) rfl rfl (y_ld_stc rfl rfl Tryz.underlying3 B4 rfl rfl rr) (wl_call (R := fun v_ w_ => v_ = .bool true ∧ Kept (fun _ => False) w2 w_) rfl rfl (y_cs rfl rfl rfl (fun _ _ => by kernel_rfl) (ev_func _) (vsC rfl (vsC rfl (vsC rfl vsN))) (hd_within K 0 2  _   ) (fun e_ w_ h_ => ⟨_, h_.1, (congrArg Value.bool (decide_eq_true d12)), h_.2⟩)) ?_)))
     rintro _ w16 ⟨rfl, k17⟩
     have B18 := B4.all k17 id
     have K19 := K7.tr k17
     refine wl_v (.bool false) rfl rfl (y_not rfl rfl rfl rr) (wl_v (.bool false) rfl rfl (y_mov rfl rfl rr) (wl_vw (pt p1 1) 4 false 7 rfl rfl rfl rfl rfl (y_fieldR (n := 1) rfl s11 Tryz.underlying25 rfl (by kernel_rfl) (by decide) rfl rr) (wl_vw (iv Q) 4 false 7 rfl rfl rfl rfl rfl (y_ld_stc rfl rfl Tryz.underlying3 B18 rfl rfl rr) (wl_callw (R := fun v_ w_ => v_ = .bool true ∧ Kept (fun _ => False) w16 w_) 4 false 7 rfl rfl rfl rfl rfl (y_cs rfl rfl rfl (fun _ _ => by kernel_rfl) (ev_func _) (vsC rfl (vsC rfl (vsC rfl vsN))) (hd_within Q 0 20  _   ) (fun e_ w_ h_ => ⟨_, h_.1, (congrArg Value.bool (decide_eq_true d13)), h_.2⟩)) ?_))))
     rintro _ w20 ⟨rfl, k21⟩
     have B22 := B18.all k21 id
     have K23 := K19.tr k21
     refine wl_vw (.bool false) 4 false 7 rfl rfl rfl rfl rfl (y_not rfl rfl rfl rr) (wl_v (.bool false) rfl rfl (y_pickF rfl rfl rfl rr) (wl_v (.bool false) rfl rfl (y_mov rfl rfl rr) (wl_vw (pt p1 2) 10 false 13 rfl rfl rfl rfl rfl (y_fieldR (n := 1) rfl s11 Tryz.underlying25 rfl (by kernel_rfl) (by decide) rfl rr) (wl_vw (iv D) 10 false 13 rfl rfl rfl rfl rfl (y_ld_stc rfl rfl Tryz.underlying3 B22 rfl rfl rr) (wl_callw (R := fun v_ w_ => v_ = .bool true ∧ Kept (fun _ => False) w20 w_) 10 false 13 rfl rfl rfl rfl rfl (y_cs rfl rfl rfl (fun _ _ => by kernel_rfl) (ev_func _) (vsC rfl (vsC rfl (vsC rfl vsN))) (hd_within D 0 16777215  _   ) (fun e_ w_ h_ => ⟨_, h_.1, (congrArg Value.bool (decide_eq_true d14)), h_.2⟩)) ?_)))))
     rintro _ w24 ⟨rfl, k25⟩
     have B26 := B22.all k25 id
     have K27 := K23.tr k25
     refine wl_vw (.bool false) 10 false 13 rfl rfl rfl rfl rfl (y_not rfl rfl rfl rr) (wl_v (.bool false) rfl rfl (y_pickF rfl rfl rfl rr) (wl_v (.bool false) rfl rfl (y_mov rfl rfl rr) (wl_vw (pt p1 3) 16 false 19 rfl rfl rfl rfl rfl (y_fieldR (n := 1) rfl s11 Tryz.underlying25 rfl (by kernel_rfl) (by decide) rfl rr) (wl_vw (iv F) 16 false 19 rfl rfl rfl rfl rfl (y_ld_stc rfl rfl Tryz.underlying3 B26 rfl rfl rr) (wl_callw (R := fun v_ w_ => v_ = .bool true ∧ Kept (fun _ => False) w24 w_) 16 false 19 rfl rfl rfl rfl rfl (y_cs rfl rfl rfl (fun _ _ => by kernel_rfl) (ev_func _) (vsC rfl (vsC rfl (vsC rfl vsN))) (hd_within F 0 1073741824  _   ) (fun e_ w_ h_ => ⟨_, h_.1, (congrArg Value.bool (decide_eq_true d15)), h_.2⟩)) ?_)))))
     rintro _ w28 ⟨rfl, k29⟩
     have K31 := K27.tr k29
     refine wl_vw (.bool false) 16 false 19 rfl rfl rfl rfl rfl (y_not rfl rfl rfl rr) (wl_v (.bool false) rfl rfl (y_pickF rfl rfl rfl rr) (wl_nil fun F32 hF33 => ?_))
     have s34 := (hF33 25).trans s10
     have s35 : F32 24 = .bool false := (hF33 24).trans rfl
     clear hF33
     refine then_normal ?_
     refine wq_cond (t := false) s35 (fun e => by cases e) (fun _ => ?_)
     refine wq_skip (then_normal (wq_seq (wq_region (wl_v (iv 0) rfl rfl (y_asg rfl rfl rr) (wl_nil fun F36 hF37 => ?_)))))
     have s38 := (hF37 25).trans s34
     have s39 : F36 2 = iv 0 := (hF37 2).trans rfl
     clear hF37
     refine then_normal (wq_ret ?_)
     exact end_tmp (v := iv 0) s38 rfl rfl s39 ⟨(by first | rw [show headE K Q D F = 0 from if_pos (by unfold headOk; omega)] | rw [show headE K Q D F = 110 from if_neg (by unfold headOk; omega)]), K31⟩
    ·skip
     refine wq_region (wl_v (pt p1 0) rfl rfl (y_fieldR (n := 1) rfl s11 Tryz.underlying25 rfl (by kernel_rfl) (by decide) rfl rr) (wl_v (iv K) rfl rfl (y_ld_stc rfl rfl Tryz.underlying3 B4 rfl rfl rr) (wl_call (R := fun v_ w_ => v_ = .bool true ∧ Kept (fun _ => False) w2 w_) rfl rfl (y_cs rfl rfl rfl (fun _ _ => by kernel_rfl) (ev_func _) (vsC rfl (vsC rfl (vsC rfl vsN))) (hd_within K 0 2  _   ) (fun e_ w_ h_ => ⟨_, h_.1, (congrArg Value.bool (decide_eq_true d12)), h_.2⟩)) ?_)))
     rintro _ w40 ⟨rfl, k41⟩
     have B42 := B4.all k41 id
     have K43 := K7.tr k41
     refine wl_v (.bool false) rfl rfl (y_not rfl rfl rfl rr) (wl_v (.bool false) rfl rfl (y_mov rfl rfl rr) (wl_vw (pt p1 1) 4 false 7 rfl rfl rfl rfl rfl (y_fieldR (n := 1) rfl s11 Tryz.underlying25 rfl (by kernel_rfl) (by decide) rfl rr) (wl_vw (iv Q) 4 false 7 rfl rfl rfl rfl rfl (y_ld_stc rfl rfl Tryz.underlying3 B42 rfl rfl rr) (wl_callw (R := fun v_ w_ => v_ = .bool true ∧ Kept (fun _ => False) w40 w_) 4 false 7 rfl rfl rfl rfl rfl (y_cs rfl rfl rfl (fun _ _ => by kernel_rfl) (ev_func _) (vsC rfl (vsC rfl (vsC rfl vsN))) (hd_within Q 0 20  _   ) (fun e_ w_ h_ => ⟨_, h_.1, (congrArg Value.bool (decide_eq_true d13)), h_.2⟩)) ?_))))
     rintro _ w44 ⟨rfl, k45⟩
     have B46 := B42.all k45 id
     have K47 := K43.tr k45
     refine wl_vw (.bool false) 4 false 7 rfl rfl rfl rfl rfl (y_not rfl rfl rfl rr) (wl_v (.bool false) rfl rfl (y_pickF rfl rfl rfl rr) (wl_v (.bool false) rfl rfl (y_mov rfl rfl rr) (wl_vw (pt p1 2) 10 false 13 rfl rfl rfl rfl rfl (y_fieldR (n := 1) rfl s11 Tryz.underlying25 rfl (by kernel_rfl) (by decide) rfl rr) (wl_vw (iv D) 10 false 13 rfl rfl rfl rfl rfl (y_ld_stc rfl rfl Tryz.underlying3 B46 rfl rfl rr) (wl_callw (R := fun v_ w_ => v_ = .bool true ∧ Kept (fun _ => False) w44 w_) 10 false 13 rfl rfl rfl rfl rfl (y_cs rfl rfl rfl (fun _ _ => by kernel_rfl) (ev_func _) (vsC rfl (vsC rfl (vsC rfl vsN))) (hd_within D 0 16777215  _   ) (fun e_ w_ h_ => ⟨_, h_.1, (congrArg Value.bool (decide_eq_true d14)), h_.2⟩)) ?_)))))
     rintro _ w48 ⟨rfl, k49⟩
     have B50 := B46.all k49 id
     have K51 := K47.tr k49
     refine wl_vw (.bool false) 10 false 13 rfl rfl rfl rfl rfl (y_not rfl rfl rfl rr) (wl_v (.bool false) rfl rfl (y_pickF rfl rfl rfl rr) (wl_v (.bool false) rfl rfl (y_mov rfl rfl rr) (wl_vw (pt p1 3) 16 false 19 rfl rfl rfl rfl rfl (y_fieldR (n := 1) rfl s11 Tryz.underlying25 rfl (by kernel_rfl) (by decide) rfl rr) (wl_vw (iv F) 16 false 19 rfl rfl rfl rfl rfl (y_ld_stc rfl rfl Tryz.underlying3 B50 rfl rfl rr) (wl_callw (R := fun v_ w_ => v_ = .bool false ∧ Kept (fun _ => False) w48 w_) 16 false 19 rfl rfl rfl rfl rfl (y_cs rfl rfl rfl (fun _ _ => by kernel_rfl) (ev_func _) (vsC rfl (vsC rfl (vsC rfl vsN))) (hd_within F 0 1073741824  _   ) (fun e_ w_ h_ => ⟨_, h_.1, (congrArg Value.bool (decide_eq_false d15)), h_.2⟩)) ?_)))))
     rintro _ w52 ⟨rfl, k53⟩
     have K55 := K51.tr k53
     refine wl_vw (.bool true) 16 false 19 rfl rfl rfl rfl rfl (y_not rfl rfl rfl rr) (wl_v (.bool true) rfl rfl (y_pickF rfl rfl rfl rr) (wl_nil fun F56 hF57 => ?_))
     have s58 := (hF57 25).trans s10
     have s59 : F56 24 = .bool true := (hF57 24).trans rfl
     clear hF57
     refine then_normal ?_
     refine wq_cond (t := true) s59 (fun _ => ?_) (fun e => by cases e)
     refine wq_seq (wq_region (wl_v (iv 110) rfl rfl (y_asg rfl rfl rr) (wl_nil fun F60 hF61 => ?_)))
     have s62 := (hF61 25).trans s58
     have s63 : F60 2 = iv 110 := (hF61 2).trans rfl
     clear hF61
     refine then_normal (wq_ret (then_ret ?_))
     exact end_tmp (v := iv 110) s62 rfl rfl s63 ⟨(by first | rw [show headE K Q D F = 0 from if_pos (by unfold headOk; omega)] | rw [show headE K Q D F = 110 from if_neg (by unfold headOk; omega)]), K55⟩
   ·skip
    refine wq_region (wl_v (pt p1 0) rfl rfl (y_fieldR (n := 1) rfl s11 Tryz.underlying25 rfl (by kernel_rfl) (by decide) rfl rr) (wl_v (iv K) rfl rfl (y_ld_stc rfl rfl Tryz.underlying3 B4 rfl rfl rr) (wl_call (R := fun v_ w_ => v_ = .bool true ∧ Kept (fun _ => False) w2 w_) rfl rfl (y_cs rfl rfl rfl (fun _ _ => by kernel_rfl) (ev_func _) (vsC rfl (vsC rfl (vsC rfl vsN))) (hd_within K 0 2  _   ) (fun e_ w_ h_ => ⟨_, h_.1, (congrArg Value.bool (decide_eq_true d12)), h_.2⟩)) ?_)))
    rintro _ w64 ⟨rfl, k65⟩
    have B66 := B4.all k65 id
    have K67 := K7.tr k65
    refine wl_v (.bool false) rfl rfl (y_not rfl rfl rfl rr) (wl_v (.bool false) rfl rfl (y_mov rfl rfl rr) (wl_vw (pt p1 1) 4 false 7 rfl rfl rfl rfl rfl (y_fieldR (n := 1) rfl s11 Tryz.underlying25 rfl (by kernel_rfl) (by decide) rfl rr) (wl_vw (iv Q) 4 false 7 rfl rfl rfl rfl rfl (y_ld_stc rfl rfl Tryz.underlying3 B66 rfl rfl rr) (wl_callw (R := fun v_ w_ => v_ = .bool true ∧ Kept (fun _ => False) w64 w_) 4 false 7 rfl rfl rfl rfl rfl (y_cs rfl rfl rfl (fun _ _ => by kernel_rfl) (ev_func _) (vsC rfl (vsC rfl (vsC rfl vsN))) (hd_within Q 0 20  _   ) (fun e_ w_ h_ => ⟨_, h_.1, (congrArg Value.bool (decide_eq_true d13)), h_.2⟩)) ?_))))
    rintro _ w68 ⟨rfl, k69⟩
    have B70 := B66.all k69 id
    have K71 := K67.tr k69
    refine wl_vw (.bool false) 4 false 7 rfl rfl rfl rfl rfl (y_not rfl rfl rfl rr) (wl_v (.bool false) rfl rfl (y_pickF rfl rfl rfl rr) (wl_v (.bool false) rfl rfl (y_mov rfl rfl rr) (wl_vw (pt p1 2) 10 false 13 rfl rfl rfl rfl rfl (y_fieldR (n := 1) rfl s11 Tryz.underlying25 rfl (by kernel_rfl) (by decide) rfl rr) (wl_vw (iv D) 10 false 13 rfl rfl rfl rfl rfl (y_ld_stc rfl rfl Tryz.underlying3 B70 rfl rfl rr) (wl_callw (R := fun v_ w_ => v_ = .bool false ∧ Kept (fun _ => False) w68 w_) 10 false 13 rfl rfl rfl rfl rfl (y_cs rfl rfl rfl (fun _ _ => by kernel_rfl) (ev_func _) (vsC rfl (vsC rfl (vsC rfl vsN))) (hd_within D 0 16777215  _   ) (fun e_ w_ h_ => ⟨_, h_.1, (congrArg Value.bool (decide_eq_false d14)), h_.2⟩)) ?_)))))
    rintro _ w72 ⟨rfl, k73⟩
    have K75 := K71.tr k73
    refine wl_vw (.bool true) 10 false 13 rfl rfl rfl rfl rfl (y_not rfl rfl rfl rr) (wl_v (.bool true) rfl rfl (y_pickF rfl rfl rfl rr) (wl_v (.bool true) rfl rfl (y_mov rfl rfl rr) (wl_unless 16 false 19 rfl rfl rfl (Or.inl rfl) rfl (wl_unless 16 false 19 rfl rfl rfl (Or.inl rfl) rfl (wl_unless 16 false 19 rfl rfl rfl (Or.inl rfl) rfl (wl_unless 16 false 19 rfl rfl rfl (Or.inl rfl) rfl (wl_v (.bool true) rfl rfl (y_pickT rfl rfl rfl rr) (wl_nil fun F76 hF77 => ?_))))))))
    have s78 := (hF77 25).trans s10
    have s79 : F76 24 = .bool true := (hF77 24).trans rfl
    clear hF77
    refine then_normal ?_
    refine wq_cond (t := true) s79 (fun _ => ?_) (fun e => by cases e)
    refine wq_seq (wq_region (wl_v (iv 110) rfl rfl (y_asg rfl rfl rr) (wl_nil fun F80 hF81 => ?_)))
    have s82 := (hF81 25).trans s78
    have s83 : F80 2 = iv 110 := (hF81 2).trans rfl
    clear hF81
    refine then_normal (wq_ret (then_ret ?_))
    exact end_tmp (v := iv 110) s82 rfl rfl s83 ⟨(by first | rw [show headE K Q D F = 0 from if_pos (by unfold headOk; omega)] | rw [show headE K Q D F = 110 from if_neg (by unfold headOk; omega)]), K75⟩
  ·skip
   refine wq_region (wl_v (pt p1 0) rfl rfl (y_fieldR (n := 1) rfl s11 Tryz.underlying25 rfl (by kernel_rfl) (by decide) rfl rr) (wl_v (iv K) rfl rfl (y_ld_stc rfl rfl Tryz.underlying3 B4 rfl rfl rr) (wl_call (R := fun v_ w_ => v_ = .bool true ∧ Kept (fun _ => False) w2 w_) rfl rfl (y_cs rfl rfl rfl (fun _ _ => by kernel_rfl) (ev_func _) (vsC rfl (vsC rfl (vsC rfl vsN))) (hd_within K 0 2  _   ) (fun e_ w_ h_ => ⟨_, h_.1, (congrArg Value.bool (decide_eq_true d12)), h_.2⟩)) ?_)))
   rintro _ w84 ⟨rfl, k85⟩
   have B86 := B4.all k85 id
   have K87 := K7.tr k85
   refine wl_v (.bool false) rfl rfl (y_not rfl rfl rfl rr) (wl_v (.bool false) rfl rfl (y_mov rfl rfl rr) (wl_vw (pt p1 1) 4 false 7 rfl rfl rfl rfl rfl (y_fieldR (n := 1) rfl s11 Tryz.underlying25 rfl (by kernel_rfl) (by decide) rfl rr) (wl_vw (iv Q) 4 false 7 rfl rfl rfl rfl rfl (y_ld_stc rfl rfl Tryz.underlying3 B86 rfl rfl rr) (wl_callw (R := fun v_ w_ => v_ = .bool false ∧ Kept (fun _ => False) w84 w_) 4 false 7 rfl rfl rfl rfl rfl (y_cs rfl rfl rfl (fun _ _ => by kernel_rfl) (ev_func _) (vsC rfl (vsC rfl (vsC rfl vsN))) (hd_within Q 0 20  _   ) (fun e_ w_ h_ => ⟨_, h_.1, (congrArg Value.bool (decide_eq_false d13)), h_.2⟩)) ?_))))
   rintro _ w88 ⟨rfl, k89⟩
   have K91 := K87.tr k89
   refine wl_vw (.bool true) 4 false 7 rfl rfl rfl rfl rfl (y_not rfl rfl rfl rr) (wl_v (.bool true) rfl rfl (y_pickF rfl rfl rfl rr) (wl_v (.bool true) rfl rfl (y_mov rfl rfl rr) (wl_unless 10 false 13 rfl rfl rfl (Or.inl rfl) rfl (wl_unless 10 false 13 rfl rfl rfl (Or.inl rfl) rfl (wl_unless 10 false 13 rfl rfl rfl (Or.inl rfl) rfl (wl_unless 10 false 13 rfl rfl rfl (Or.inl rfl) rfl (wl_v (.bool true) rfl rfl (y_pickT rfl rfl rfl rr) (wl_v (.bool true) rfl rfl (y_mov rfl rfl rr) (wl_unless 16 false 19 rfl rfl rfl (Or.inl rfl) rfl (wl_unless 16 false 19 rfl rfl rfl (Or.inl rfl) rfl (wl_unless 16 false 19 rfl rfl rfl (Or.inl rfl) rfl ?_)))))))))))
   refine wl_unless 16 false 19 rfl rfl rfl (Or.inl rfl) rfl (wl_v (.bool true) rfl rfl (y_pickT rfl rfl rfl rr) (wl_nil fun F92 hF93 => ?_))
   have s94 := (hF93 25).trans s10
   have s95 : F92 24 = .bool true := (hF93 24).trans rfl
   clear hF93
   refine then_normal ?_
   refine wq_cond (t := true) s95 (fun _ => ?_) (fun e => by cases e)
   refine wq_seq (wq_region (wl_v (iv 110) rfl rfl (y_asg rfl rfl rr) (wl_nil fun F96 hF97 => ?_)))
   have s98 := (hF97 25).trans s94
   have s99 : F96 2 = iv 110 := (hF97 2).trans rfl
   clear hF97
   refine then_normal (wq_ret (then_ret ?_))
   exact end_tmp (v := iv 110) s98 rfl rfl s99 ⟨(by first | rw [show headE K Q D F = 0 from if_pos (by unfold headOk; omega)] | rw [show headE K Q D F = 110 from if_neg (by unfold headOk; omega)]), K91⟩
 ·skip
  refine wq_region (wl_v (pt p1 0) rfl rfl (y_fieldR (n := 1) rfl s11 Tryz.underlying25 rfl (by kernel_rfl) (by decide) rfl rr) (wl_v (iv K) rfl rfl (y_ld_stc rfl rfl Tryz.underlying3 B4 rfl rfl rr) (wl_call (R := fun v_ w_ => v_ = .bool false ∧ Kept (fun _ => False) w2 w_) rfl rfl (y_cs rfl rfl rfl (fun _ _ => by kernel_rfl) (ev_func _) (vsC rfl (vsC rfl (vsC rfl vsN))) (hd_within K 0 2  _   ) (fun e_ w_ h_ => ⟨_, h_.1, (congrArg Value.bool (decide_eq_false d12)), h_.2⟩)) ?_)))
  rintro _ w100 ⟨rfl, k101⟩
  have K103 := K7.tr k101
  refine wl_v (.bool true) rfl rfl (y_not rfl rfl rfl rr) (wl_v (.bool true) rfl rfl (y_mov rfl rfl rr) (wl_unless 4 false 7 rfl rfl rfl (Or.inl rfl) rfl (wl_unless 4 false 7 rfl rfl rfl (Or.inl rfl) rfl (wl_unless 4 false 7 rfl rfl rfl (Or.inl rfl) rfl (wl_unless 4 false 7 rfl rfl rfl (Or.inl rfl) rfl (wl_v (.bool true) rfl rfl (y_pickT rfl rfl rfl rr) (wl_v (.bool true) rfl rfl (y_mov rfl rfl rr) (wl_unless 10 false 13 rfl rfl rfl (Or.inl rfl) rfl (wl_unless 10 false 13 rfl rfl rfl (Or.inl rfl) rfl (wl_unless 10 false 13 rfl rfl rfl (Or.inl rfl) rfl (wl_unless 10 false 13 rfl rfl rfl (Or.inl rfl) rfl ?_)))))))))))
  refine wl_v (.bool true) rfl rfl (y_pickT rfl rfl rfl rr) (wl_v (.bool true) rfl rfl (y_mov rfl rfl rr) (wl_unless 16 false 19 rfl rfl rfl (Or.inl rfl) rfl (wl_unless 16 false 19 rfl rfl rfl (Or.inl rfl) rfl (wl_unless 16 false 19 rfl rfl rfl (Or.inl rfl) rfl (wl_unless 16 false 19 rfl rfl rfl (Or.inl rfl) rfl (wl_v (.bool true) rfl rfl (y_pickT rfl rfl rfl rr) (wl_nil fun F104 hF105 => ?_)))))))
  have s106 := (hF105 25).trans s10
  have s107 : F104 24 = .bool true := (hF105 24).trans rfl
  clear hF105
  refine then_normal ?_
  refine wq_cond (t := true) s107 (fun _ => ?_) (fun e => by cases e)
  refine wq_seq (wq_region (wl_v (iv 110) rfl rfl (y_asg rfl rfl rr) (wl_nil fun F108 hF109 => ?_)))
  have s110 := (hF109 25).trans s106
  have s111 : F108 2 = iv 110 := (hF109 2).trans rfl
  clear hF109
  refine then_normal (wq_ret (then_ret ?_))
  exact end_tmp (v := iv 110) s110 rfl rfl s111 ⟨(by first | rw [show headE K Q D F = 0 from if_pos (by unfold headOk; omega)] | rw [show headE K Q D F = 110 from if_neg (by unfold headOk; omega)]), K103⟩
end Go.Proofs.YtknjpdcpmpfklaaGreatDoor
set_option maxRecDepth 100000
namespace Go.Proofs.YtknjpdcpmpfklaaGreatDoor
open Go.RowKit
theorem stcT_spot : StcT Tryz.prog 65 3 := ⟨_, Tryz.underlying65, rfl, by kernel_rfl⟩
theorem stcT_pfs : StcT Tryz.prog 58 2 := ⟨_, Tryz.underlying58, rfl, by kernel_rfl⟩
theorem stcT_all : StcT Tryz.prog 59 6 := ⟨_, Tryz.underlying59, rfl, by kernel_rfl⟩
theorem plN_2 {W : Int} (h0 : 0 ≤ W) : Int.tdiv W 2 = W / 2 := Int.tdiv_eq_ediv_of_nonneg h0
theorem plN_q {W : Int} {p : Nat} (h0 : 0 ≤ W) (hp : p ≠ 0) : Int.tdiv (W / 2) 4 = ((plN W p : Nat) : Int) := by
  rw [Int.tdiv_eq_ediv_of_nonneg (by omega)]; unfold plN; rw [if_neg hp]; omega
theorem pc_fits (W H R B : Int) (f : FD) (f0 f1 f2 : Value) (T_f0 : Nat → Prop) (T_f1 : Nat → Prop) (T_f2 : Nat → Prop) (w0 : World) (h_f0 : Byt w0 T_f0 f0 ((f).p0)) (h_f1 : Byt w0 T_f1 f1 ((f).p1)) (h_f2 : Byt w0 T_f2 f2 ((f).p2)) :
  Calls Tryz.prog 16 #[.agg #[.int .i64 (W), .int .i64 (H), .int .i64 (R), .int .i64 (B)], .agg #[.int .i64 ((f).W), .int .i64 ((f).H), f0, f1, f2]] w0 fun e w' => e = .returned (.bool (decide (fitsP W H R B f))) ∧ Kept (fun _ => False) w0 w' := by
 refine calls_wq (args := [.agg #[iv W, iv H, iv R, iv B], .agg #[iv (f.W), iv (f.H), f0, f1, f2]]) 27 Tryz.func16 rfl rfl (Nat.le_of_ble_eq_true rfl) ?_
 have K0 := Kept.refl (fun _ => False) w0
 have g_f0 := Grew.refl w0 T_f0
 have g_f1 := Grew.refl w0 T_f1
 have g_f2 := Grew.refl w0 T_f2
 refine wq_seq (wq_region (wl_box_stc (vs := [iv W, iv H, iv R, iv B]) rfl rfl rfl rfl fun p1 w2 B4 g5 k3 => ?_))
 have B10 := h_f0.all k3 Apart.none
 have B11 := h_f1.all k3 Apart.none
 have B12 := h_f2.all k3 Apart.none
 have K13 := K0.tr k3
 refine wl_box_stc (vs := [iv (f.W), iv (f.H), f0, f1, f2]) rfl rfl rfl rfl fun p14 w15 B17 g18 k16 => ?_
 have B24 := B10.all k16 Apart.none
 have B25 := B11.all k16 Apart.none
 have B26 := B12.all k16 Apart.none
 have B27 := B4.all k16 id
 have K28 := K13.tr k16
 refine wl_v (.bool false) rfl rfl (y_asg rfl rfl rr) (wl_nil fun F29 hF30 => ?_)
 have s31 : F29 27 = undef := (hF30 27).trans rfl
 have s32 : F29 2 = pt p1 0 := (hF30 2).trans rfl
 have s33 : F29 3 = pt p14 0 := (hF30 3).trans rfl
 clear hF30
 refine then_normal (wq_seq ?_)
 by_cases d34 : (seqE W H R B) = 0
 ·skip
  by_cases d35 : (checkE f) = 0
  ·skip
   by_cases d36 : W = (f.W)
   ·skip
    refine wq_region (wl_v (.agg #[iv W, iv H, iv R, iv B]) rfl rfl (y_load_stc stcT_seq rfl s32 B27 rr) (wl_cs rfl rfl rfl rfl rfl (fun _ _ => by kernel_rfl) (vsC rfl vsN) (hd_seq W H R B  _   ) fun w37 k38 => ?_))
    have B39 := B24.all k38 Apart.none
    have B40 := B25.all k38 Apart.none
    have B41 := B26.all k38 Apart.none
    have B42 := B27.all k38 id
    have B43 := B17.all k38 id
    have K44 := K28.tr k38
    refine wl_v (.bool true) rfl rfl (y_eqlI rfl rfl rfl (decide_eq_true d34) rr) (wl_v (.bool true) rfl rfl (y_mov rfl rfl rr) (wl_vw (.agg #[iv (f.W), iv (f.H), f0, f1, f2]) 3 true 8 rfl rfl rfl rfl rfl (y_load_stc stcT_frame rfl s33 B43 rr) (wl_callw (R := fun v_ w_ => v_ = iv (checkE f) ∧ Kept (fun _ => False) w37 w_) 3 true 8 rfl rfl rfl rfl rfl (y_cs rfl rfl rfl (fun _ _ => by kernel_rfl) (ev_func _) (vsC rfl vsN) (pl_check f f0 f1 f2 T_f0 T_f1 T_f2 _  B39 B40 B41 ) (fun e_ w_ h_ => ⟨_, h_.1, rfl, h_.2⟩)) ?_)))
    rintro _ w45 ⟨rfl, k46⟩
    have B50 := B42.all k46 id
    have B51 := B43.all k46 id
    have K52 := K44.tr k46
    refine wl_vw (.bool true) 3 true 8 rfl rfl rfl rfl rfl (y_eqlI rfl rfl rfl (decide_eq_true d35) rr) (wl_v (.bool true) rfl rfl (y_pickT rfl rfl rfl rr) (wl_v (.bool true) rfl rfl (y_mov rfl rfl rr) (wl_vw (pt p1 0) 8 true 13 rfl rfl rfl rfl rfl (y_fieldR (n := 1) rfl s32 Tryz.underlying23 rfl (by kernel_rfl) (by decide) rfl rr) (wl_vw (iv W) 8 true 13 rfl rfl rfl rfl rfl (y_ld_stc rfl rfl Tryz.underlying3 B50 rfl rfl rr) (wl_vw (pt p14 0) 8 true 13 rfl rfl rfl rfl rfl (y_fieldR (n := 1) rfl s33 Tryz.underlying29 rfl (by kernel_rfl) (by decide) rfl rr) (wl_vw (iv (f.W)) 8 true 13 rfl rfl rfl rfl rfl (y_ld_stc rfl rfl Tryz.underlying3 B51 rfl rfl rr) (wl_vw (.bool true) 8 true 13 rfl rfl rfl rfl rfl (y_eqlI rfl rfl rfl (decide_eq_true d36) rr) (wl_v (.bool true) rfl rfl (y_pickT rfl rfl rfl rr) (wl_v (.bool true) rfl rfl (y_mov rfl rfl rr) (wl_vw (pt p1 1) 15 true 20 rfl rfl rfl rfl rfl (y_fieldR (n := 1) rfl s32 Tryz.underlying23 rfl (by kernel_rfl) (by decide) rfl rr) (wl_vw (iv H) 15 true 20 rfl rfl rfl rfl rfl (y_ld_stc rfl rfl Tryz.underlying3 B50 rfl rfl rr) ?_)))))))))))
    refine wl_vw (pt p14 1) 15 true 20 rfl rfl rfl rfl rfl (y_fieldR (n := 1) rfl s33 Tryz.underlying29 rfl (by kernel_rfl) (by decide) rfl rr) (wl_vw (iv (f.H)) 15 true 20 rfl rfl rfl rfl rfl (y_ld_stc rfl rfl Tryz.underlying3 B51 rfl rfl rr) (wl_vw (.bool (decide (H = (f.H)))) 15 true 20 rfl rfl rfl rfl rfl (y_eqlI rfl rfl rfl rfl rr) (wl_v (.bool (decide (H = (f.H)))) rfl rfl (y_pickT rfl rfl rfl rr) (wl_v (.bool (decide (H = (f.H)))) rfl rfl (y_asg rfl rfl rr) (wl_nil fun F53 hF54 => ?_)))))
    have s55 := (hF54 27).trans s31
    have s56 : F53 4 = .bool (decide (H = (f.H))) := (hF54 4).trans rfl
    clear hF54
    refine then_normal (wq_ret ?_)
    exact end_tmp (v := .bool (decide (H = (f.H)))) s55 rfl rfl s56 ⟨(retB (fits_dec (by simp_all))), K52⟩
   ·skip
    refine wq_region (wl_v (.agg #[iv W, iv H, iv R, iv B]) rfl rfl (y_load_stc stcT_seq rfl s32 B27 rr) (wl_cs rfl rfl rfl rfl rfl (fun _ _ => by kernel_rfl) (vsC rfl vsN) (hd_seq W H R B  _   ) fun w57 k58 => ?_))
    have B59 := B24.all k58 Apart.none
    have B60 := B25.all k58 Apart.none
    have B61 := B26.all k58 Apart.none
    have B62 := B27.all k58 id
    have B63 := B17.all k58 id
    have K64 := K28.tr k58
    refine wl_v (.bool true) rfl rfl (y_eqlI rfl rfl rfl (decide_eq_true d34) rr) (wl_v (.bool true) rfl rfl (y_mov rfl rfl rr) (wl_vw (.agg #[iv (f.W), iv (f.H), f0, f1, f2]) 3 true 8 rfl rfl rfl rfl rfl (y_load_stc stcT_frame rfl s33 B63 rr) (wl_callw (R := fun v_ w_ => v_ = iv (checkE f) ∧ Kept (fun _ => False) w57 w_) 3 true 8 rfl rfl rfl rfl rfl (y_cs rfl rfl rfl (fun _ _ => by kernel_rfl) (ev_func _) (vsC rfl vsN) (pl_check f f0 f1 f2 T_f0 T_f1 T_f2 _  B59 B60 B61 ) (fun e_ w_ h_ => ⟨_, h_.1, rfl, h_.2⟩)) ?_)))
    rintro _ w65 ⟨rfl, k66⟩
    have B70 := B62.all k66 id
    have B71 := B63.all k66 id
    have K72 := K64.tr k66
    refine wl_vw (.bool true) 3 true 8 rfl rfl rfl rfl rfl (y_eqlI rfl rfl rfl (decide_eq_true d35) rr) (wl_v (.bool true) rfl rfl (y_pickT rfl rfl rfl rr) (wl_v (.bool true) rfl rfl (y_mov rfl rfl rr) (wl_vw (pt p1 0) 8 true 13 rfl rfl rfl rfl rfl (y_fieldR (n := 1) rfl s32 Tryz.underlying23 rfl (by kernel_rfl) (by decide) rfl rr) (wl_vw (iv W) 8 true 13 rfl rfl rfl rfl rfl (y_ld_stc rfl rfl Tryz.underlying3 B70 rfl rfl rr) (wl_vw (pt p14 0) 8 true 13 rfl rfl rfl rfl rfl (y_fieldR (n := 1) rfl s33 Tryz.underlying29 rfl (by kernel_rfl) (by decide) rfl rr) (wl_vw (iv (f.W)) 8 true 13 rfl rfl rfl rfl rfl (y_ld_stc rfl rfl Tryz.underlying3 B71 rfl rfl rr) (wl_vw (.bool false) 8 true 13 rfl rfl rfl rfl rfl (y_eqlI rfl rfl rfl (decide_eq_false d36) rr) (wl_v (.bool false) rfl rfl (y_pickT rfl rfl rfl rr) (wl_v (.bool false) rfl rfl (y_mov rfl rfl rr) (wl_unless 15 true 20 rfl rfl rfl (Or.inl rfl) rfl (wl_unless 15 true 20 rfl rfl rfl (Or.inl rfl) rfl ?_)))))))))))
    refine wl_unless 15 true 20 rfl rfl rfl (Or.inl rfl) rfl (wl_unless 15 true 20 rfl rfl rfl (Or.inl rfl) rfl (wl_unless 15 true 20 rfl rfl rfl (Or.inl rfl) rfl (wl_v (.bool false) rfl rfl (y_pickF rfl rfl rfl rr) (wl_v (.bool false) rfl rfl (y_asg rfl rfl rr) (wl_nil fun F73 hF74 => ?_)))))
    have s75 := (hF74 27).trans s31
    have s76 : F73 4 = .bool false := (hF74 4).trans rfl
    clear hF74
    refine then_normal (wq_ret ?_)
    exact end_tmp (v := .bool false) s75 rfl rfl s76 ⟨(retB (fits_dec (by simp_all))), K72⟩
  ·skip
   refine wq_region (wl_v (.agg #[iv W, iv H, iv R, iv B]) rfl rfl (y_load_stc stcT_seq rfl s32 B27 rr) (wl_cs rfl rfl rfl rfl rfl (fun _ _ => by kernel_rfl) (vsC rfl vsN) (hd_seq W H R B  _   ) fun w77 k78 => ?_))
   have B79 := B24.all k78 Apart.none
   have B80 := B25.all k78 Apart.none
   have B81 := B26.all k78 Apart.none
   have B83 := B17.all k78 id
   have K84 := K28.tr k78
   refine wl_v (.bool true) rfl rfl (y_eqlI rfl rfl rfl (decide_eq_true d34) rr) (wl_v (.bool true) rfl rfl (y_mov rfl rfl rr) (wl_vw (.agg #[iv (f.W), iv (f.H), f0, f1, f2]) 3 true 8 rfl rfl rfl rfl rfl (y_load_stc stcT_frame rfl s33 B83 rr) (wl_callw (R := fun v_ w_ => v_ = iv (checkE f) ∧ Kept (fun _ => False) w77 w_) 3 true 8 rfl rfl rfl rfl rfl (y_cs rfl rfl rfl (fun _ _ => by kernel_rfl) (ev_func _) (vsC rfl vsN) (pl_check f f0 f1 f2 T_f0 T_f1 T_f2 _  B79 B80 B81 ) (fun e_ w_ h_ => ⟨_, h_.1, rfl, h_.2⟩)) ?_)))
   rintro _ w85 ⟨rfl, k86⟩
   have K92 := K84.tr k86
   refine wl_vw (.bool false) 3 true 8 rfl rfl rfl rfl rfl (y_eqlI rfl rfl rfl (decide_eq_false d35) rr) (wl_v (.bool false) rfl rfl (y_pickT rfl rfl rfl rr) (wl_v (.bool false) rfl rfl (y_mov rfl rfl rr) (wl_unless 8 true 13 rfl rfl rfl (Or.inl rfl) rfl (wl_unless 8 true 13 rfl rfl rfl (Or.inl rfl) rfl (wl_unless 8 true 13 rfl rfl rfl (Or.inl rfl) rfl (wl_unless 8 true 13 rfl rfl rfl (Or.inl rfl) rfl (wl_unless 8 true 13 rfl rfl rfl (Or.inl rfl) rfl (wl_v (.bool false) rfl rfl (y_pickF rfl rfl rfl rr) (wl_v (.bool false) rfl rfl (y_mov rfl rfl rr) (wl_unless 15 true 20 rfl rfl rfl (Or.inl rfl) rfl (wl_unless 15 true 20 rfl rfl rfl (Or.inl rfl) rfl ?_)))))))))))
   refine wl_unless 15 true 20 rfl rfl rfl (Or.inl rfl) rfl (wl_unless 15 true 20 rfl rfl rfl (Or.inl rfl) rfl (wl_unless 15 true 20 rfl rfl rfl (Or.inl rfl) rfl (wl_v (.bool false) rfl rfl (y_pickF rfl rfl rfl rr) (wl_v (.bool false) rfl rfl (y_asg rfl rfl rr) (wl_nil fun F93 hF94 => ?_)))))
   have s95 := (hF94 27).trans s31
   have s96 : F93 4 = .bool false := (hF94 4).trans rfl
   clear hF94
   refine then_normal (wq_ret ?_)
   exact end_tmp (v := .bool false) s95 rfl rfl s96 ⟨(retB (fits_dec (by simp_all))), K92⟩
 ·skip
  refine wq_region (wl_v (.agg #[iv W, iv H, iv R, iv B]) rfl rfl (y_load_stc stcT_seq rfl s32 B27 rr) (wl_cs rfl rfl rfl rfl rfl (fun _ _ => by kernel_rfl) (vsC rfl vsN) (hd_seq W H R B  _   ) fun w97 k98 => ?_))
  have K104 := K28.tr k98
  refine wl_v (.bool false) rfl rfl (y_eqlI rfl rfl rfl (decide_eq_false d34) rr) (wl_v (.bool false) rfl rfl (y_mov rfl rfl rr) (wl_unless 3 true 8 rfl rfl rfl (Or.inl rfl) rfl (wl_unless 3 true 8 rfl rfl rfl (Or.inl rfl) rfl (wl_unless 3 true 8 rfl rfl rfl (Or.inl rfl) rfl (wl_v (.bool false) rfl rfl (y_pickF rfl rfl rfl rr) (wl_v (.bool false) rfl rfl (y_mov rfl rfl rr) (wl_unless 8 true 13 rfl rfl rfl (Or.inl rfl) rfl (wl_unless 8 true 13 rfl rfl rfl (Or.inl rfl) rfl (wl_unless 8 true 13 rfl rfl rfl (Or.inl rfl) rfl (wl_unless 8 true 13 rfl rfl rfl (Or.inl rfl) rfl (wl_unless 8 true 13 rfl rfl rfl (Or.inl rfl) rfl ?_)))))))))))
  refine wl_v (.bool false) rfl rfl (y_pickF rfl rfl rfl rr) (wl_v (.bool false) rfl rfl (y_mov rfl rfl rr) (wl_unless 15 true 20 rfl rfl rfl (Or.inl rfl) rfl (wl_unless 15 true 20 rfl rfl rfl (Or.inl rfl) rfl (wl_unless 15 true 20 rfl rfl rfl (Or.inl rfl) rfl (wl_unless 15 true 20 rfl rfl rfl (Or.inl rfl) rfl (wl_unless 15 true 20 rfl rfl rfl (Or.inl rfl) rfl (wl_v (.bool false) rfl rfl (y_pickF rfl rfl rfl rr) (wl_v (.bool false) rfl rfl (y_asg rfl rfl rr) (wl_nil fun F105 hF106 => ?_)))))))))
  have s107 := (hF106 27).trans s31
  have s108 : F105 4 = .bool false := (hF106 4).trans rfl
  clear hF106
  refine then_normal (wq_ret ?_)
  exact end_tmp (v := .bool false) s107 rfl rfl s108 ⟨(retB (fits_dec (by simp_all))), K104⟩
def chkE (W H R B K Q D F : Int) : Int := if mayP W H R B K Q D F then 0 else 110
theorem chk_no {W H R B K Q D F : Int} (h : ¬ mayP W H R B K Q D F) : chkE W H R B K Q D F = 110 := if_neg h
theorem chk_yes {W H R B K Q D F : Int} (h : mayP W H R B K Q D F) : chkE W H R B K Q D F = 0 := if_pos h
theorem chk_may {W H R B K Q D F : Int} (h : chkE W H R B K Q D F = 0) : mayP W H R B K Q D F := Decidable.byContradiction fun hn => by rw [chk_no hn] at h; cases h
theorem chk_bad {W H R B K Q D F : Int} (h : chkE W H R B K Q D F ≠ 0) : ¬ mayP W H R B K Q D F := fun hm => h (chk_yes hm)
theorem seqE_two {W H R B : Int} (h : seqE W H R B ≠ 0) : seqE W H R B = 110 := by unfold seqE at h ⊢; split at h <;> first | exact absurd rfl h | (rename_i hn; exact if_neg hn)
theorem chk_head {W H R B K Q D F : Int} (h : seqE W H R B = 0) : chkE W H R B K Q D F = headE K Q D F := by
  have hs := seq_is h
  unfold chkE headE
  by_cases hh : headOk K Q D F
  · rw [if_pos hh, if_pos ⟨hs, hh⟩]
  · rw [if_neg hh, if_neg (fun z => hh z.2)]
theorem chk_seq {W H R B K Q D F : Int} (h : seqE W H R B ≠ 0) : chkE W H R B K Q D F = seqE W H R B := by
  rw [seqE_two h, chk_no]
  intro z; exact h (if_pos z.1)
theorem pc_check (W H R B K Q D F : Int) (w0 : World) :
  Calls Tryz.prog 26 #[.agg #[.int .i64 (W), .int .i64 (H), .int .i64 (R), .int .i64 (B)], .agg #[.int .i64 (K), .int .i64 (Q), .int .i64 (D), .int .i64 (F)]] w0 fun e w' => e = .returned (.int .i64 (chkE W H R B K Q D F)) ∧ Kept (fun _ => False) w0 w' := by
 refine calls_wq (args := [.agg #[iv W, iv H, iv R, iv B], .agg #[iv K, iv Q, iv D, iv F]]) 13 Tryz.func26 rfl rfl (Nat.le_of_ble_eq_true rfl) ?_
 have K0 := Kept.refl (fun _ => False) w0
 refine wq_seq (wq_region (wl_box_stc (vs := [iv W, iv H, iv R, iv B]) rfl rfl rfl rfl fun p1 w2 B4 g5 k3 => ?_))
 have K7 := K0.tr k3
 refine wl_box_stc (vs := [iv K, iv Q, iv D, iv F]) rfl rfl rfl rfl fun p8 w9 B11 g12 k10 => ?_
 have B15 := B4.all k10 id
 have K16 := K7.tr k10
 refine wl_v (iv 0) rfl rfl (y_asg rfl rfl rr) (wl_nil fun F17 hF18 => ?_)
 have s19 : F17 13 = undef := (hF18 13).trans rfl
 have s20 : F17 2 = pt p1 0 := (hF18 2).trans rfl
 have s21 : F17 3 = pt p8 0 := (hF18 3).trans rfl
 clear hF18
 refine then_normal (wq_seq (wq_seq (wq_region (wl_v (.agg #[iv W, iv H, iv R, iv B]) rfl rfl (y_load_stc stcT_seq rfl s20 B15 rr) (wl_cs rfl rfl rfl rfl rfl (fun _ _ => by kernel_rfl) (vsC rfl vsN) (hd_seq W H R B  _   ) fun w22 k23 => ?_)))))
 have B25 := B11.all k23 id
 have K26 := K16.tr k23
 refine wl_v (iv (seqE W H R B)) rfl rfl (y_asg rfl rfl rr) (wl_nil fun F27 hF28 => ?_)
 obtain ⟨s29, s30⟩ := t2 hF28 13 s19 3 s21
 have s31 : F27 5 = iv (seqE W H R B) := (hF28 5).trans rfl
 clear hF28
 refine then_normal (wq_seq (wq_region (wl_mv rfl rfl rfl s31 (wl_v (.bool (decide ((seqE W H R B) ≠ 0))) rfl rfl (y_neqI rfl rfl rfl rfl rr) (wl_nil fun F32 hF33 => ?_)))))
 obtain ⟨s34, s35, s36⟩ := t3 hF33 13 s29 3 s30 5 s31
 have s37 : F32 9 = .bool (decide ((seqE W H R B) ≠ 0)) := (hF33 9).trans rfl
 clear hF33
 refine then_normal ?_
 refine wq_cond s37 (fun c38 => ?_) (fun c38 => ?_)
 ·replace c38 := of_decide_eq_true c38
  refine wq_seq (wq_region (wl_mv rfl rfl rfl s36 (wl_v (iv (seqE W H R B)) rfl rfl (y_asg rfl rfl rr) (wl_nil fun F39 hF40 => ?_))))
  have s41 := (hF40 13).trans s34
  have s42 : F39 4 = iv (seqE W H R B) := (hF40 4).trans rfl
  clear hF40
  refine then_normal (wq_ret (then_ret ?_))
  exact end_tmp (v := iv (seqE W H R B)) s41 rfl rfl s42 ⟨(by first | rw [chk_seq (by assumption)] | rw [chk_head (by first | assumption | (apply Decidable.byContradiction; assumption))]), K26⟩
 ·replace c38 := of_decide_eq_false c38
  refine wq_skip (then_normal (wq_seq (wq_region (wl_v (.agg #[iv K, iv Q, iv D, iv F]) rfl rfl (y_load_stc stcT_head rfl s35 B25 rr) (wl_cs rfl rfl rfl rfl rfl (fun _ _ => by kernel_rfl) (vsC rfl vsN) (hd_head K Q D F  _   ) fun w43 k44 => ?_)))))
  have K47 := K26.tr k44
  refine wl_v (iv (headE K Q D F)) rfl rfl (y_asg rfl rfl rr) (wl_nil fun F48 hF49 => ?_)
  have s50 := (hF49 13).trans s34
  have s51 : F48 4 = iv (headE K Q D F) := (hF49 4).trans rfl
  clear hF49
  refine then_normal (wq_ret ?_)
  exact end_tmp (v := iv (headE K Q D F)) s50 rfl rfl s51 ⟨(by first | rw [chk_seq (by assumption)] | rw [chk_head (by first | assumption | (apply Decidable.byContradiction; assumption))]), K47⟩
theorem pc_has (W H R B K : Int) (g : FD) (g0 g1 g2 : Value) (h : FD) (h0 h1 h2 : Value) (T_g0 : Nat → Prop) (T_g1 : Nat → Prop) (T_g2 : Nat → Prop) (T_h0 : Nat → Prop) (T_h1 : Nat → Prop) (T_h2 : Nat → Prop) (w0 : World) (h_g0 : Byt w0 T_g0 g0 ((g).p0)) (h_g1 : Byt w0 T_g1 g1 ((g).p1)) (h_g2 : Byt w0 T_g2 g2 ((g).p2)) (h_h0 : Byt w0 T_h0 h0 ((h).p0)) (h_h1 : Byt w0 T_h1 h1 ((h).p1)) (h_h2 : Byt w0 T_h2 h2 ((h).p2)) :
  Calls Tryz.prog 41 #[.agg #[.int .i64 (W), .int .i64 (H), .int .i64 (R), .int .i64 (B)], .int .i64 (K), .agg #[.int .i64 ((g).W), .int .i64 ((g).H), g0, g1, g2], .agg #[.int .i64 ((h).W), .int .i64 ((h).H), h0, h1, h2]] w0 fun e w' => e = .returned (.bool (decide (¬ ((K ≠ 0 ∧ ¬ fitsP W H R B g) ∨ (K = 2 ∧ ¬ fitsP W H R B h))))) ∧ Kept (fun _ => False) w0 w' := by
 refine calls_wq (args := [.agg #[iv W, iv H, iv R, iv B], iv K, .agg #[iv (g.W), iv (g.H), g0, g1, g2], .agg #[iv (h.W), iv (h.H), h0, h1, h2]]) 25 Tryz.func41 rfl rfl (Nat.le_of_ble_eq_true rfl) ?_
 have K0 := Kept.refl (fun _ => False) w0
 have g_g0 := Grew.refl w0 T_g0
 have g_g1 := Grew.refl w0 T_g1
 have g_g2 := Grew.refl w0 T_g2
 have g_h0 := Grew.refl w0 T_h0
 have g_h1 := Grew.refl w0 T_h1
 have g_h2 := Grew.refl w0 T_h2
 refine wq_seq (wq_region (wl_box_stc (vs := [iv W, iv H, iv R, iv B]) rfl rfl rfl rfl fun p1 w2 B4 g5 k3 => ?_))
 have B13 := h_g0.all k3 Apart.none
 have B14 := h_g1.all k3 Apart.none
 have B15 := h_g2.all k3 Apart.none
 have B16 := h_h0.all k3 Apart.none
 have B17 := h_h1.all k3 Apart.none
 have B18 := h_h2.all k3 Apart.none
 have K19 := K0.tr k3
 refine wl_box_stc (vs := [iv (g.W), iv (g.H), g0, g1, g2]) rfl rfl rfl rfl fun p20 w21 B23 g24 k22 => ?_
 have B33 := B13.all k22 Apart.none
 have B34 := B14.all k22 Apart.none
 have B35 := B15.all k22 Apart.none
 have B36 := B16.all k22 Apart.none
 have B37 := B17.all k22 Apart.none
 have B38 := B18.all k22 Apart.none
 have B39 := B4.all k22 id
 have K40 := K19.tr k22
 refine wl_box_stc (vs := [iv (h.W), iv (h.H), h0, h1, h2]) rfl rfl rfl rfl fun p41 w42 B44 g45 k43 => ?_
 have B55 := B33.all k43 Apart.none
 have B56 := B34.all k43 Apart.none
 have B57 := B35.all k43 Apart.none
 have B58 := B36.all k43 Apart.none
 have B59 := B37.all k43 Apart.none
 have B60 := B38.all k43 Apart.none
 have B61 := B39.all k43 id
 have B62 := B23.all k43 id
 have K63 := K40.tr k43
 refine wl_v (.bool false) rfl rfl (y_asg rfl rfl rr) (wl_nil fun F64 hF65 => ?_)
 have s66 : F64 1 = iv K := (hF65 1).trans rfl
 have s67 : F64 25 = undef := (hF65 25).trans rfl
 have s68 : F64 4 = pt p1 0 := (hF65 4).trans rfl
 have s69 : F64 6 = pt p20 0 := (hF65 6).trans rfl
 have s70 : F64 7 = pt p41 0 := (hF65 7).trans rfl
 clear hF65
 refine then_normal (wq_seq ?_)
 by_cases d71 : K = 0
 ·skip
  by_cases d72 : K ≠ 2
  ·skip
   refine wq_region (wl_mv rfl rfl rfl s66 (wl_v (.bool true) rfl rfl (y_eqlI rfl rfl rfl (decide_eq_true d71) rr) (wl_v (.bool true) rfl rfl (y_mov rfl rfl rr) (wl_unless 2 false 11 rfl rfl rfl (Or.inl rfl) rfl (wl_unless 2 false 11 rfl rfl rfl (Or.inl rfl) rfl (wl_unless 2 false 11 rfl rfl rfl (Or.inl rfl) rfl (wl_v (.bool true) rfl rfl (y_pickT rfl rfl rfl rr) (wl_v (.bool true) rfl rfl (y_mov rfl rfl rr) (wl_vw (iv K) 7 true 16 rfl rfl rfl rfl rfl (y_mov rfl s66 rr) (wl_vw (.bool true) 7 true 16 rfl rfl rfl rfl rfl (y_neqI rfl rfl rfl (decide_eq_true d72) rr) (wl_vw (.bool true) 7 true 16 rfl rfl rfl rfl rfl (y_mov rfl rfl rr) ?_)))))))))))
   refine wl_unless 10 false 19 rfl rfl rfl (Or.inl rfl) rfl (wl_unless 10 false 19 rfl rfl rfl (Or.inl rfl) rfl (wl_unless 10 false 19 rfl rfl rfl (Or.inl rfl) rfl (wl_vw (.bool true) 7 true 16 rfl rfl rfl rfl rfl (y_pickT rfl rfl rfl rr) (wl_v (.bool true) rfl rfl (y_pickT rfl rfl rfl rr) (wl_v (.bool true) rfl rfl (y_asg rfl rfl rr) (wl_nil fun F73 hF74 => ?_))))))
   have s75 := (hF74 25).trans s67
   have s76 : F73 8 = .bool true := (hF74 8).trans rfl
   clear hF74
   refine then_normal (wq_ret ?_)
   exact end_tmp (v := .bool true) s75 rfl rfl s76 ⟨(retB (by first | (simp [*]; done) | (simp_all; done) | (simp_all; omega))), K63⟩
  ·skip
   refine wq_region (wl_mv rfl rfl rfl s66 (wl_v (.bool true) rfl rfl (y_eqlI rfl rfl rfl (decide_eq_true d71) rr) (wl_v (.bool true) rfl rfl (y_mov rfl rfl rr) (wl_unless 2 false 11 rfl rfl rfl (Or.inl rfl) rfl (wl_unless 2 false 11 rfl rfl rfl (Or.inl rfl) rfl (wl_unless 2 false 11 rfl rfl rfl (Or.inl rfl) rfl (wl_v (.bool true) rfl rfl (y_pickT rfl rfl rfl rr) (wl_v (.bool true) rfl rfl (y_mov rfl rfl rr) (wl_vw (iv K) 7 true 16 rfl rfl rfl rfl rfl (y_mov rfl s66 rr) (wl_vw (.bool false) 7 true 16 rfl rfl rfl rfl rfl (y_neqI rfl rfl rfl (decide_eq_false d72) rr) (wl_vw (.bool false) 7 true 16 rfl rfl rfl rfl rfl (y_mov rfl rfl rr) ?_)))))))))))
   refine wl_vw (.agg #[iv W, iv H, iv R, iv B]) 10 false 19 rfl rfl rfl rfl rfl (y_load_stc stcT_seq rfl s68 B61 rr) (wl_vw (.agg #[iv (h.W), iv (h.H), h0, h1, h2]) 10 false 19 rfl rfl rfl rfl rfl (y_load_stc stcT_frame rfl s70 B44 rr) (wl_callw (R := fun v_ w_ => v_ = .bool (decide (fitsP W H R B h)) ∧ Kept (fun _ => False) w42 w_) 10 false 19 rfl rfl rfl rfl rfl (y_cs rfl rfl rfl (fun _ _ => by kernel_rfl) (ev_func _) (vsC rfl (vsC rfl vsN)) (pc_fits W H R B h h0 h1 h2 T_h0 T_h1 T_h2 _  B58 B59 B60 ) (fun e_ w_ h_ => ⟨_, h_.1, rfl, h_.2⟩)) ?_))
   rintro _ w77 ⟨rfl, k78⟩
   have K88 := K63.tr k78
   refine wl_vw (.bool (decide (fitsP W H R B h))) 7 true 16 rfl rfl rfl rfl rfl (y_pickF rfl rfl rfl rr) (wl_v (.bool (decide (fitsP W H R B h))) rfl rfl (y_pickT rfl rfl rfl rr) (wl_v (.bool (decide (fitsP W H R B h))) rfl rfl (y_asg rfl rfl rr) (wl_nil fun F89 hF90 => ?_)))
   have s91 := (hF90 25).trans s67
   have s92 : F89 8 = .bool (decide (fitsP W H R B h)) := (hF90 8).trans rfl
   clear hF90
   refine then_normal (wq_ret ?_)
   exact end_tmp (v := .bool (decide (fitsP W H R B h))) s91 rfl rfl s92 ⟨(retB (by first | (simp [*]; done) | (simp_all; done) | (simp_all; omega))), K88⟩
 ·skip
  rcases Bool.eq_false_or_eq_true (decide (fitsP W H R B g)) with d93 | d93
  ·skip
   by_cases d94 : K ≠ 2
   ·skip
    refine wq_region (wl_mv rfl rfl rfl s66 (wl_v (.bool false) rfl rfl (y_eqlI rfl rfl rfl (decide_eq_false d71) rr) (wl_v (.bool false) rfl rfl (y_mov rfl rfl rr) (wl_vw (.agg #[iv W, iv H, iv R, iv B]) 2 false 11 rfl rfl rfl rfl rfl (y_load_stc stcT_seq rfl s68 B61 rr) (wl_vw (.agg #[iv (g.W), iv (g.H), g0, g1, g2]) 2 false 11 rfl rfl rfl rfl rfl (y_load_stc stcT_frame rfl s69 B62 rr) (wl_callw (R := fun v_ w_ => v_ = .bool true ∧ Kept (fun _ => False) w42 w_) 2 false 11 rfl rfl rfl rfl rfl (y_cs rfl rfl rfl (fun _ _ => by kernel_rfl) (ev_func _) (vsC rfl (vsC rfl vsN)) (pc_fits W H R B g g0 g1 g2 T_g0 T_g1 T_g2 _  B55 B56 B57 ) (fun e_ w_ h_ => ⟨_, h_.1, (congrArg Value.bool d93), h_.2⟩)) ?_))))))
    rintro _ w95 ⟨rfl, k96⟩
    have K106 := K63.tr k96
    refine wl_v (.bool true) rfl rfl (y_pickF rfl rfl rfl rr) (wl_v (.bool true) rfl rfl (y_mov rfl rfl rr) (wl_vw (iv K) 7 true 16 rfl rfl rfl rfl rfl (y_mov rfl s66 rr) (wl_vw (.bool true) 7 true 16 rfl rfl rfl rfl rfl (y_neqI rfl rfl rfl (decide_eq_true d94) rr) (wl_vw (.bool true) 7 true 16 rfl rfl rfl rfl rfl (y_mov rfl rfl rr) (wl_unless 10 false 19 rfl rfl rfl (Or.inl rfl) rfl (wl_unless 10 false 19 rfl rfl rfl (Or.inl rfl) rfl (wl_unless 10 false 19 rfl rfl rfl (Or.inl rfl) rfl (wl_vw (.bool true) 7 true 16 rfl rfl rfl rfl rfl (y_pickT rfl rfl rfl rr) (wl_v (.bool true) rfl rfl (y_pickT rfl rfl rfl rr) (wl_v (.bool true) rfl rfl (y_asg rfl rfl rr) (wl_nil fun F107 hF108 => ?_)))))))))))
    have s109 := (hF108 25).trans s67
    have s110 : F107 8 = .bool true := (hF108 8).trans rfl
    clear hF108
    refine then_normal (wq_ret ?_)
    exact end_tmp (v := .bool true) s109 rfl rfl s110 ⟨(retB (by first | (simp [*]; done) | (simp_all; done) | (simp_all; omega))), K106⟩
   ·skip
    refine wq_region (wl_mv rfl rfl rfl s66 (wl_v (.bool false) rfl rfl (y_eqlI rfl rfl rfl (decide_eq_false d71) rr) (wl_v (.bool false) rfl rfl (y_mov rfl rfl rr) (wl_vw (.agg #[iv W, iv H, iv R, iv B]) 2 false 11 rfl rfl rfl rfl rfl (y_load_stc stcT_seq rfl s68 B61 rr) (wl_vw (.agg #[iv (g.W), iv (g.H), g0, g1, g2]) 2 false 11 rfl rfl rfl rfl rfl (y_load_stc stcT_frame rfl s69 B62 rr) (wl_callw (R := fun v_ w_ => v_ = .bool true ∧ Kept (fun _ => False) w42 w_) 2 false 11 rfl rfl rfl rfl rfl (y_cs rfl rfl rfl (fun _ _ => by kernel_rfl) (ev_func _) (vsC rfl (vsC rfl vsN)) (pc_fits W H R B g g0 g1 g2 T_g0 T_g1 T_g2 _  B55 B56 B57 ) (fun e_ w_ h_ => ⟨_, h_.1, (congrArg Value.bool d93), h_.2⟩)) ?_))))))
    rintro _ w111 ⟨rfl, k112⟩
    have B116 := B58.all k112 Apart.none
    have B117 := B59.all k112 Apart.none
    have B118 := B60.all k112 Apart.none
    have B119 := B61.all k112 id
    have B121 := B44.all k112 id
    have K122 := K63.tr k112
    refine wl_v (.bool true) rfl rfl (y_pickF rfl rfl rfl rr) (wl_v (.bool true) rfl rfl (y_mov rfl rfl rr) (wl_vw (iv K) 7 true 16 rfl rfl rfl rfl rfl (y_mov rfl s66 rr) (wl_vw (.bool false) 7 true 16 rfl rfl rfl rfl rfl (y_neqI rfl rfl rfl (decide_eq_false d94) rr) (wl_vw (.bool false) 7 true 16 rfl rfl rfl rfl rfl (y_mov rfl rfl rr) (wl_vw (.agg #[iv W, iv H, iv R, iv B]) 10 false 19 rfl rfl rfl rfl rfl (y_load_stc stcT_seq rfl s68 B119 rr) (wl_vw (.agg #[iv (h.W), iv (h.H), h0, h1, h2]) 10 false 19 rfl rfl rfl rfl rfl (y_load_stc stcT_frame rfl s70 B121 rr) (wl_callw (R := fun v_ w_ => v_ = .bool (decide (fitsP W H R B h)) ∧ Kept (fun _ => False) w111 w_) 10 false 19 rfl rfl rfl rfl rfl (y_cs rfl rfl rfl (fun _ _ => by kernel_rfl) (ev_func _) (vsC rfl (vsC rfl vsN)) (pc_fits W H R B h h0 h1 h2 T_h0 T_h1 T_h2 _  B116 B117 B118 ) (fun e_ w_ h_ => ⟨_, h_.1, rfl, h_.2⟩)) ?_)))))))
    rintro _ w123 ⟨rfl, k124⟩
    have K134 := K122.tr k124
    refine wl_vw (.bool (decide (fitsP W H R B h))) 7 true 16 rfl rfl rfl rfl rfl (y_pickF rfl rfl rfl rr) (wl_v (.bool (decide (fitsP W H R B h))) rfl rfl (y_pickT rfl rfl rfl rr) (wl_v (.bool (decide (fitsP W H R B h))) rfl rfl (y_asg rfl rfl rr) (wl_nil fun F135 hF136 => ?_)))
    have s137 := (hF136 25).trans s67
    have s138 : F135 8 = .bool (decide (fitsP W H R B h)) := (hF136 8).trans rfl
    clear hF136
    refine then_normal (wq_ret ?_)
    exact end_tmp (v := .bool (decide (fitsP W H R B h))) s137 rfl rfl s138 ⟨(retB (by first | (simp [*]; done) | (simp_all; done) | (simp_all; omega))), K134⟩
  ·skip
   refine wq_region (wl_mv rfl rfl rfl s66 (wl_v (.bool false) rfl rfl (y_eqlI rfl rfl rfl (decide_eq_false d71) rr) (wl_v (.bool false) rfl rfl (y_mov rfl rfl rr) (wl_vw (.agg #[iv W, iv H, iv R, iv B]) 2 false 11 rfl rfl rfl rfl rfl (y_load_stc stcT_seq rfl s68 B61 rr) (wl_vw (.agg #[iv (g.W), iv (g.H), g0, g1, g2]) 2 false 11 rfl rfl rfl rfl rfl (y_load_stc stcT_frame rfl s69 B62 rr) (wl_callw (R := fun v_ w_ => v_ = .bool false ∧ Kept (fun _ => False) w42 w_) 2 false 11 rfl rfl rfl rfl rfl (y_cs rfl rfl rfl (fun _ _ => by kernel_rfl) (ev_func _) (vsC rfl (vsC rfl vsN)) (pc_fits W H R B g g0 g1 g2 T_g0 T_g1 T_g2 _  B55 B56 B57 ) (fun e_ w_ h_ => ⟨_, h_.1, (congrArg Value.bool d93), h_.2⟩)) ?_))))))
   rintro _ w139 ⟨rfl, k140⟩
   have K150 := K63.tr k140
   refine wl_v (.bool false) rfl rfl (y_pickF rfl rfl rfl rr) (wl_v (.bool false) rfl rfl (y_mov rfl rfl rr) (wl_unless 7 true 16 rfl rfl rfl (Or.inl rfl) rfl (wl_unless 7 true 16 rfl rfl rfl (Or.inl rfl) rfl (wl_unless 7 true 16 rfl rfl rfl (Or.inl rfl) rfl (wl_unless 10 false 19 rfl rfl rfl (Or.inr rfl) rfl (wl_unless 10 false 19 rfl rfl rfl (Or.inr rfl) rfl (wl_unless 10 false 19 rfl rfl rfl (Or.inr rfl) rfl (wl_unless 7 true 16 rfl rfl rfl (Or.inl rfl) rfl (wl_v (.bool false) rfl rfl (y_pickF rfl rfl rfl rr) (wl_v (.bool false) rfl rfl (y_asg rfl rfl rr) (wl_nil fun F151 hF152 => ?_)))))))))))
   have s153 := (hF152 25).trans s67
   have s154 : F151 8 = .bool false := (hF152 8).trans rfl
   clear hF152
   refine then_normal (wq_ret ?_)
   exact end_tmp (v := .bool false) s153 rfl rfl s154 ⟨(retB (by first | (simp [*]; done) | (simp_all; done) | (simp_all; omega))), K150⟩
theorem pc_across (W H R B : Int) (p : Nat) (w0 : World) (hs : seqOk W H R B) :
  Calls Tryz.prog 58 #[.agg #[.int .i64 (W), .int .i64 (H), .int .i64 (R), .int .i64 (B)], .int .i64 (((p : Nat) : Int))] w0 fun e w' => e = .returned (.tuple #[.int .i64 (((plN W p : Nat) : Int)), .int .i64 (((plN H p : Nat) : Int))]) ∧ Kept (fun _ => False) w0 w' := by
 refine calls_wq (args := [.agg #[iv W, iv H, iv R, iv B], iv ((p : Nat) : Int)]) 22 Tryz.func58 rfl rfl (Nat.le_of_ble_eq_true rfl) ?_
 have K0 := Kept.refl (fun _ => False) w0
 have hsd := seq_side hs
 have hpw := plN_le (W := W) (p := p) hsd.2.1
 have hph := plN_le (W := H) (p := p) hsd.2.2.2.2.1
 refine wq_seq (wq_region (wl_box_stc (vs := [iv W, iv H, iv R, iv B]) rfl rfl rfl rfl fun p1 w2 B4 g5 k3 => ?_))
 have K7 := K0.tr k3
 refine wl_v (iv 0) rfl rfl (y_asg rfl rfl rr) (wl_v (iv 0) rfl rfl (y_asg rfl rfl rr) (wl_nil fun F8 hF9 => ?_))
 have s10 : F8 1 = iv ((p : Nat) : Int) := (hF9 1).trans rfl
 have s11 : F8 22 = undef := (hF9 22).trans rfl
 have s12 : F8 2 = pt p1 0 := (hF9 2).trans rfl
 clear hF9
 refine then_normal (wq_seq (wq_seq (wq_region (wl_mv rfl rfl rfl s10 (wl_v (.bool (decide (((p : Nat) : Int) = 0))) rfl rfl (y_eqlI rfl rfl rfl rfl rr) (wl_nil fun F13 hF14 => ?_))))))
 obtain ⟨s15, s16⟩ := t2 hF14 22 s11 2 s12
 have s17 : F13 7 = .bool (decide (((p : Nat) : Int) = 0)) := (hF14 7).trans rfl
 clear hF14
 refine then_normal ?_
 refine wq_cond s17 (fun c18 => ?_) (fun c18 => ?_)
 ·replace c18 := of_decide_eq_true c18
  refine wq_seq ?_
  refine wq_said [some 8, some 9, some 10, some 11, some 12, some 13, some 4, some 5] [Pd.eq (pt p1 0), Pd.eq (iv W), Pd.eq (iv ((plN W p : Nat) : Int)), Pd.eq (pt p1 1), Pd.eq (iv H), Pd.eq (iv ((plN H p : Nat) : Int)), Pd.eq (iv ((plN W p : Nat) : Int)), Pd.eq (iv ((plN H p : Nat) : Int))] (by kernel_rfl) (by kernel_rfl) ?_ ?_
  ·refine stepsF_cons ?_ ?_
   ·refine StepF.one rfl fun F_ w_ hR hout hD => ?_
    exact (y_fieldR (n := 1) rfl ((hout 2 rfl (by decide)).trans s16) Tryz.underlying23 rfl (by kernel_rfl) (by decide) rfl ⟨rfl, Kept.refl _ _⟩)
   refine stepsF_cons ?_ ?_
   ·refine StepF.one rfl fun F_ w_ hR hout hD => ?_
    have g8 : F_ 8 = pt p1 0 := (hD.get 0 rfl rfl rfl)
    exact (y_ld_stc rfl g8 Tryz.underlying3 (B4.all hR id) rfl rfl ⟨rfl, Kept.refl _ _⟩)
   refine stepsF_cons ?_ ?_
   ·refine StepF.one rfl fun F_ w_ hR hout hD => ?_
    have g9 : F_ 9 = iv W := (hD.get 0 rfl rfl rfl)
    exact (y_quo rfl g9 rfl (by first | decide | omega) (i64_n (plN_0 (by omega) (by omega)) (by omega)) ⟨rfl, Kept.refl _ _⟩)
   refine stepsF_cons ?_ ?_
   ·refine StepF.one rfl fun F_ w_ hR hout hD => ?_
    exact (y_fieldR (n := 1) rfl ((hout 2 rfl (by decide)).trans s16) Tryz.underlying23 rfl (by kernel_rfl) (by decide) rfl ⟨rfl, Kept.refl _ _⟩)
   refine stepsF_cons ?_ ?_
   ·refine StepF.one rfl fun F_ w_ hR hout hD => ?_
    have g11 : F_ 11 = pt p1 1 := (hD.get 0 rfl rfl rfl)
    exact (y_ld_stc rfl g11 Tryz.underlying3 (B4.all hR id) rfl rfl ⟨rfl, Kept.refl _ _⟩)
   refine stepsF_cons ?_ ?_
   ·refine StepF.one rfl fun F_ w_ hR hout hD => ?_
    have g12 : F_ 12 = iv H := (hD.get 0 rfl rfl rfl)
    exact (y_quo rfl g12 rfl (by first | decide | omega) (i64_n (plN_0 (by omega) (by omega)) (by omega)) ⟨rfl, Kept.refl _ _⟩)
   refine stepsF_cons ?_ ?_
   ·refine StepF.one rfl fun F_ w_ hR hout hD => ?_
    have g10 : F_ 10 = iv ((plN W p : Nat) : Int) := (hD.get 0 rfl rfl rfl)
    exact (y_asg rfl g10 ⟨rfl, Kept.refl _ _⟩)
   refine stepsF_cons ?_ ?_
   ·refine StepF.one rfl fun F_ w_ hR hout hD => ?_
    have g13 : F_ 13 = iv ((plN H p : Nat) : Int) := (hD.get 0 rfl rfl rfl)
    exact (y_asg rfl g13 ⟨rfl, Kept.refl _ _⟩)
   exact stepsF_nil
  intro v19 F20 w21 k22 G23 hF24
  have K27 := K7.tr k22
  have s28 := (hF24 22).trans s15
  have s29 : F20 4 = iv ((plN W p : Nat) : Int) := (hF24 4).trans (G23 6 (by decide))
  have s30 : F20 5 = iv ((plN H p : Nat) : Int) := (hF24 5).trans (G23 7 (by decide))
  clear G23 hF24
  refine then_normal (wq_ret (then_ret ?_))
  exact end_2 s28 rfl (res_tmp (v := iv ((plN W p : Nat) : Int)) rfl s29) (res_tmp (v := iv ((plN H p : Nat) : Int)) rfl s30) ⟨rfl, K27⟩
 ·replace c18 := of_decide_eq_false c18
  refine wq_skip (then_normal (wq_seq ?_))
  refine wq_said [some 14, some 15, some 16, some 17, some 18, some 19, some 20, some 21, some 4, some 5] [Pd.eq (pt p1 0), Pd.eq (iv W), Pd.eq (iv (W / 2)), Pd.eq (iv ((plN W p : Nat) : Int)), Pd.eq (pt p1 1), Pd.eq (iv H), Pd.eq (iv (H / 2)), Pd.eq (iv ((plN H p : Nat) : Int)), Pd.eq (iv ((plN W p : Nat) : Int)), Pd.eq (iv ((plN H p : Nat) : Int))] (by kernel_rfl) (by kernel_rfl) ?_ ?_
  ·refine stepsF_cons ?_ ?_
   ·refine StepF.one rfl fun F_ w_ hR hout hD => ?_
    exact (y_fieldR (n := 1) rfl ((hout 2 rfl (by decide)).trans s16) Tryz.underlying23 rfl (by kernel_rfl) (by decide) rfl ⟨rfl, Kept.refl _ _⟩)
   refine stepsF_cons ?_ ?_
   ·refine StepF.one rfl fun F_ w_ hR hout hD => ?_
    have g14 : F_ 14 = pt p1 0 := (hD.get 0 rfl rfl rfl)
    exact (y_ld_stc rfl g14 Tryz.underlying3 (B4.all hR id) rfl rfl ⟨rfl, Kept.refl _ _⟩)
   refine stepsF_cons ?_ ?_
   ·refine StepF.one rfl fun F_ w_ hR hout hD => ?_
    have g15 : F_ 15 = iv W := (hD.get 0 rfl rfl rfl)
    exact (y_quo rfl g15 rfl (by first | decide | omega) (i64_i (plN_2 (by omega)) (by omega)) ⟨rfl, Kept.refl _ _⟩)
   refine stepsF_cons ?_ ?_
   ·refine StepF.one rfl fun F_ w_ hR hout hD => ?_
    have g16 : F_ 16 = iv (W / 2) := (hD.get 0 rfl rfl rfl)
    exact (y_quo rfl g16 rfl (by first | decide | omega) (i64_n (plN_q (by omega) (by omega)) (by omega)) ⟨rfl, Kept.refl _ _⟩)
   refine stepsF_cons ?_ ?_
   ·refine StepF.one rfl fun F_ w_ hR hout hD => ?_
    exact (y_fieldR (n := 1) rfl ((hout 2 rfl (by decide)).trans s16) Tryz.underlying23 rfl (by kernel_rfl) (by decide) rfl ⟨rfl, Kept.refl _ _⟩)
   refine stepsF_cons ?_ ?_
   ·refine StepF.one rfl fun F_ w_ hR hout hD => ?_
    have g18 : F_ 18 = pt p1 1 := (hD.get 0 rfl rfl rfl)
    exact (y_ld_stc rfl g18 Tryz.underlying3 (B4.all hR id) rfl rfl ⟨rfl, Kept.refl _ _⟩)
   refine stepsF_cons ?_ ?_
   ·refine StepF.one rfl fun F_ w_ hR hout hD => ?_
    have g19 : F_ 19 = iv H := (hD.get 0 rfl rfl rfl)
    exact (y_quo rfl g19 rfl (by first | decide | omega) (i64_i (plN_2 (by omega)) (by omega)) ⟨rfl, Kept.refl _ _⟩)
   refine stepsF_cons ?_ ?_
   ·refine StepF.one rfl fun F_ w_ hR hout hD => ?_
    have g20 : F_ 20 = iv (H / 2) := (hD.get 0 rfl rfl rfl)
    exact (y_quo rfl g20 rfl (by first | decide | omega) (i64_n (plN_q (by omega) (by omega)) (by omega)) ⟨rfl, Kept.refl _ _⟩)
   refine stepsF_cons ?_ ?_
   ·refine StepF.one rfl fun F_ w_ hR hout hD => ?_
    have g17 : F_ 17 = iv ((plN W p : Nat) : Int) := (hD.get 0 rfl rfl rfl)
    exact (y_asg rfl g17 ⟨rfl, Kept.refl _ _⟩)
   refine stepsF_cons ?_ ?_
   ·refine StepF.one rfl fun F_ w_ hR hout hD => ?_
    have g21 : F_ 21 = iv ((plN H p : Nat) : Int) := (hD.get 0 rfl rfl rfl)
    exact (y_asg rfl g21 ⟨rfl, Kept.refl _ _⟩)
   exact stepsF_nil
  intro v31 F32 w33 k34 G35 hF36
  have K39 := K7.tr k34
  have s40 := (hF36 22).trans s15
  have s41 : F32 4 = iv ((plN W p : Nat) : Int) := (hF36 4).trans (G35 8 (by decide))
  have s42 : F32 5 = iv ((plN H p : Nat) : Int) := (hF36 5).trans (G35 9 (by decide))
  clear G35 hF36
  refine then_normal (wq_ret ?_)
  exact end_2 s40 rfl (res_tmp (v := iv ((plN W p : Nat) : Int)) rfl s41) (res_tmp (v := iv ((plN H p : Nat) : Int)) rfl s42) ⟨rfl, K39⟩
def mdE (f g h : FD) (p x y : Int) (c : Ch) (q : Int) : Int := if cpE f g h p (4 * x) (4 * y) c = 0 then ern q else cpE f g h p (4 * x) (4 * y) c
def mdB (f g h : FD) (p x y : Int) (c : Ch) (q : Int) : Nat → Int := if cpE f g h p (4 * x) (4 * y) c = 0 then buB (cpB f g h p (4 * x) (4 * y) c) c.b q else fun _ => 0
theorem md_yes {f g h : FD} {p x y : Int} {c : Ch} {q : Int} (e : cpE f g h p (4 * x) (4 * y) c = 0) : mdE f g h p x y c q = ern q ∧ mdB f g h p x y c q = buB (cpB f g h p (4 * x) (4 * y) c) c.b q := ⟨if_pos e, if_pos e⟩
theorem md_no {f g h : FD} {p x y : Int} {c : Ch} {q : Int} (e : cpE f g h p (4 * x) (4 * y) c ≠ 0) : mdE f g h p x y c q = cpE f g h p (4 * x) (4 * y) c ∧ mdB f g h p x y c q = fun _ => 0 := ⟨if_neg e, if_neg e⟩
theorem pc_made (p x y q : Int) (c : Ch) (f : FD) (f0 f1 f2 : Value) (g : FD) (g0 g1 g2 : Value) (h : FD) (h0 h1 h2 : Value) (T_f0 : Nat → Prop) (T_f1 : Nat → Prop) (T_f2 : Nat → Prop) (T_g0 : Nat → Prop) (T_g1 : Nat → Prop) (T_g2 : Nat → Prop) (T_h0 : Nat → Prop) (T_h1 : Nat → Prop) (T_h2 : Nat → Prop) (w0 : World) (hA : ActsIn w0) (hs : StepsAt w0) (hw : Waves w0) (hx : 0 ≤ x ∧ x ≤ 16) (hy : 0 ≤ y ∧ y ≤ 256) (h_f0 : Byt w0 T_f0 f0 ((f).p0)) (h_f1 : Byt w0 T_f1 f1 ((f).p1)) (h_f2 : Byt w0 T_f2 f2 ((f).p2)) (h_g0 : Byt w0 T_g0 g0 ((g).p0)) (h_g1 : Byt w0 T_g1 g1 ((g).p1)) (h_g2 : Byt w0 T_g2 g2 ((g).p2)) (h_h0 : Byt w0 T_h0 h0 ((h).p0)) (h_h1 : Byt w0 T_h1 h1 ((h).p1)) (h_h2 : Byt w0 T_h2 h2 ((h).p2)) :
  Calls Tryz.prog 42 #[.agg #[.int .i64 ((f).W), .int .i64 ((f).H), f0, f1, f2], .agg #[.int .i64 ((g).W), .int .i64 ((g).H), g0, g1, g2], .agg #[.int .i64 ((h).W), .int .i64 ((h).H), h0, h1, h2], .agg #[.int .i64 (p), .int .i64 (x), .int .i64 (y)], .agg (chW (c)).toArray, .int .i64 (q)] w0 fun e w' => e = .returned (.tuple #[blkV (mdB f g h p x y c q), .int .i64 (mdE f g h p x y c q)]) ∧ Kept (fun _ => False) w0 w' := by
 refine calls_wq (args := [.agg #[iv (f.W), iv (f.H), f0, f1, f2], .agg #[iv (g.W), iv (g.H), g0, g1, g2], .agg #[iv (h.W), iv (h.H), h0, h1, h2], .agg #[iv p, iv x, iv y], .agg (chW c).toArray, iv q]) 42 Tryz.func42 rfl rfl (Nat.le_of_ble_eq_true rfl) ?_
 have K0 := Kept.refl (fun _ => False) w0
 have g_f0 := Grew.refl w0 T_f0
 have g_f1 := Grew.refl w0 T_f1
 have g_f2 := Grew.refl w0 T_f2
 have g_g0 := Grew.refl w0 T_g0
 have g_g1 := Grew.refl w0 T_g1
 have g_g2 := Grew.refl w0 T_g2
 have g_h0 := Grew.refl w0 T_h0
 have g_h1 := Grew.refl w0 T_h1
 have g_h2 := Grew.refl w0 T_h2
 refine wq_seq (wq_region (wl_box_stc (vs := [iv (f.W), iv (f.H), f0, f1, f2]) rfl rfl rfl rfl fun p1 w2 B4 g5 k3 => ?_))
 have B16 := h_f0.all k3 Apart.none
 have B17 := h_f1.all k3 Apart.none
 have B18 := h_f2.all k3 Apart.none
 have B19 := h_g0.all k3 Apart.none
 have B20 := h_g1.all k3 Apart.none
 have B21 := h_g2.all k3 Apart.none
 have B22 := h_h0.all k3 Apart.none
 have B23 := h_h1.all k3 Apart.none
 have B24 := h_h2.all k3 Apart.none
 have K25 := K0.tr k3
 refine wl_box_stc (vs := [iv (g.W), iv (g.H), g0, g1, g2]) rfl rfl rfl rfl fun p26 w27 B29 g30 k28 => ?_
 have B42 := B16.all k28 Apart.none
 have B43 := B17.all k28 Apart.none
 have B44 := B18.all k28 Apart.none
 have B45 := B19.all k28 Apart.none
 have B46 := B20.all k28 Apart.none
 have B47 := B21.all k28 Apart.none
 have B48 := B22.all k28 Apart.none
 have B49 := B23.all k28 Apart.none
 have B50 := B24.all k28 Apart.none
 have B51 := B4.all k28 id
 have K52 := K25.tr k28
 refine wl_box_stc (vs := [iv (h.W), iv (h.H), h0, h1, h2]) rfl rfl rfl rfl fun p53 w54 B56 g57 k55 => ?_
 have B70 := B42.all k55 Apart.none
 have B71 := B43.all k55 Apart.none
 have B72 := B44.all k55 Apart.none
 have B73 := B45.all k55 Apart.none
 have B74 := B46.all k55 Apart.none
 have B75 := B47.all k55 Apart.none
 have B76 := B48.all k55 Apart.none
 have B77 := B49.all k55 Apart.none
 have B78 := B50.all k55 Apart.none
 have B79 := B51.all k55 id
 have B80 := B29.all k55 id
 have K81 := K52.tr k55
 refine wl_box_stc (vs := [iv p, iv x, iv y]) rfl rfl rfl rfl fun p82 w83 B85 g86 k84 => ?_
 have B100 := B70.all k84 Apart.none
 have B101 := B71.all k84 Apart.none
 have B102 := B72.all k84 Apart.none
 have B103 := B73.all k84 Apart.none
 have B104 := B74.all k84 Apart.none
 have B105 := B75.all k84 Apart.none
 have B106 := B76.all k84 Apart.none
 have B107 := B77.all k84 Apart.none
 have B108 := B78.all k84 Apart.none
 have B109 := B79.all k84 id
 have B110 := B80.all k84 id
 have B111 := B56.all k84 id
 have K112 := K81.tr k84
 refine wl_box_stc (vs := (chW c)) rfl rfl rfl rfl fun p113 w114 B116 g117 k115 => ?_
 have B132 := B100.all k115 Apart.none
 have B133 := B101.all k115 Apart.none
 have B134 := B102.all k115 Apart.none
 have B135 := B103.all k115 Apart.none
 have B136 := B104.all k115 Apart.none
 have B137 := B105.all k115 Apart.none
 have B138 := B106.all k115 Apart.none
 have B139 := B107.all k115 Apart.none
 have B140 := B108.all k115 Apart.none
 have B141 := B109.all k115 id
 have B142 := B110.all k115 id
 have B143 := B111.all k115 id
 have B144 := B85.all k115 id
 have K145 := K112.tr k115
 refine wl_alloc_blk rfl rfl rfl blkT_block.2.2 fun p146 w147 e150 B148 k149 => ?_
 have g151 := onB_new (Nat.le_of_eq e150.symm)
 have gr152 : Grew w0 noB (onB p146) := Grew.new K145 g151
 clear e150 g151
 have B167 := B132.all k149 Apart.none
 have B168 := B133.all k149 Apart.none
 have B169 := B134.all k149 Apart.none
 have B170 := B135.all k149 Apart.none
 have B171 := B136.all k149 Apart.none
 have B172 := B137.all k149 Apart.none
 have B173 := B138.all k149 Apart.none
 have B174 := B139.all k149 Apart.none
 have B175 := B140.all k149 Apart.none
 have B176 := B141.all k149 id
 have B177 := B142.all k149 id
 have B178 := B143.all k149 id
 have B179 := B144.all k149 id
 have B180 := B116.all k149 id
 have K181 := K145.tr k149
 refine wl_v (iv 0) rfl rfl (y_asg rfl rfl rr) (wl_nil fun F182 hF183 => ?_)
 have s184 : F182 5 = iv q := (hF183 5).trans rfl
 have s185 : F182 42 = undef := (hF183 42).trans rfl
 have s186 : F182 6 = pt p1 0 := (hF183 6).trans rfl
 have s187 : F182 7 = pt p26 0 := (hF183 7).trans rfl
 have s188 : F182 8 = pt p53 0 := (hF183 8).trans rfl
 have s189 : F182 9 = pt p82 0 := (hF183 9).trans rfl
 have s190 : F182 10 = pt p113 0 := (hF183 10).trans rfl
 have s191 : F182 12 = pt p146 0 := (hF183 12).trans rfl
 clear hF183
 refine then_normal (wq_seq (wq_region (wl_v (.agg #[iv (f.W), iv (f.H), f0, f1, f2]) rfl rfl (y_load_stc stcT_frame rfl s186 B176 rr) (wl_v (.agg #[iv (g.W), iv (g.H), g0, g1, g2]) rfl rfl (y_load_stc stcT_frame rfl s187 B177 rr) (wl_v (.agg #[iv (h.W), iv (h.H), h0, h1, h2]) rfl rfl (y_load_stc stcT_frame rfl s188 B178 rr) (wl_v (pt p82 0) rfl rfl (y_fieldR (n := 1) rfl s189 Tryz.underlying65 rfl (by kernel_rfl) (by decide) rfl rr) (wl_v (iv p) rfl rfl (y_ld_stc rfl rfl Tryz.underlying3 B179 rfl rfl rr) (wl_v (pt p82 1) rfl rfl (y_fieldR (n := 1) rfl s189 Tryz.underlying65 rfl (by kernel_rfl) (by decide) rfl rr) (wl_v (iv x) rfl rfl (y_ld_stc rfl rfl Tryz.underlying3 B179 rfl rfl rr) (wl_v (iv (4 * x)) rfl rfl (y_mul rfl rfl rfl (i64_i rfl (by omega)) rr) (wl_v (pt p82 2) rfl rfl (y_fieldR (n := 1) rfl s189 Tryz.underlying65 rfl (by kernel_rfl) (by decide) rfl rr) ?_)))))))))))
 refine wl_v (iv y) rfl rfl (y_ld_stc rfl rfl Tryz.underlying3 B179 rfl rfl rr) (wl_v (iv (4 * y)) rfl rfl (y_mul rfl rfl rfl (i64_i rfl (by omega)) rr) (wl_v (.agg (chW c).toArray) rfl rfl (y_load_stc stcT_choice rfl s190 B180 rr) (wl_cs rfl rfl rfl rfl rfl (fun _ _ => by kernel_rfl) (vsC rfl (vsC rfl (vsC rfl (vsC rfl (vsC rfl (vsC rfl (vsC rfl vsN))))))) (bl_predict p (4 * x) (4 * y) c f f0 f1 f2 g g0 g1 g2 h h0 h1 h2 T_f0 T_f1 T_f2 T_g0 T_g1 T_g2 T_h0 T_h1 T_h2 _ (hA.all K181) B167 B168 B169 B170 B171 B172 B173 B174 B175 ) fun w192 k193 => ?_)))
 have B207 := B180.all k193 id
 have B208 := B148.all k193 id
 have K209 := K181.tr k193
 refine wl_v (.tuple #[blkV (cpB f g h p (4 * x) (4 * y) c), iv (cpE f g h p (4 * x) (4 * y) c)]) rfl rfl (y_mov rfl rfl rr) (wl_v (blkV (cpB f g h p (4 * x) (4 * y) c)) rfl rfl (y_ext rfl rfl rfl rr) (wl_v (iv (cpE f g h p (4 * x) (4 * y) c)) rfl rfl (y_ext rfl rfl rfl rr) (wl_alloc_blk rfl rfl rfl blkT_block.2.2 fun p210 w211 e214 B212 k213 => ?_)))
 have g215 := onB_new (Nat.le_of_eq e214.symm)
 have gr216 : Grew w0 noB (onB p210) := Grew.new K209 g215
 have ap230 : Apart (onB p210) (onB p113) := Apart.new g215 (onB_live B207.lt)
 have ap231 : Apart (onB p210) (onB p146) := Apart.new g215 (onB_live B208.lt)
 clear e214 g215
 have B245 := B207.all k213 id
 have B246 := B208.all k213 id
 have K247 := K209.tr k213
 refine wl_store_blk blkT_block rfl rfl rfl rfl rfl B212 fun w248 B249 k250 => ?_
 have B264 := B245.all k250 (ap230.symm p113 rfl)
 have B265 := B246.all k250 (ap231.symm p146 rfl)
 have K266 := K247.trans k250 (Grew.ok (S := fun _ => False) gr216 noB_le)
 refine wl_v (iv (cpE f g h p (4 * x) (4 * y) c)) rfl rfl (y_asg rfl rfl rr) (wl_nil fun F267 hF268 => ?_)
 obtain ⟨s269, s270, s271, s272⟩ := t4 hF268 5 s184 42 s185 10 s190 12 s191
 have s273 : F267 14 = pt p210 0 := (hF268 14).trans rfl
 have s274 : F267 15 = iv (cpE f g h p (4 * x) (4 * y) c) := (hF268 15).trans rfl
 clear hF268
 refine then_normal (wq_seq (wq_seq (wq_region (wl_mv rfl rfl rfl s274 (wl_v (.bool (decide ((cpE f g h p (4 * x) (4 * y) c) ≠ 0))) rfl rfl (y_neqI rfl rfl rfl rfl rr) (wl_nil fun F275 hF276 => ?_))))))
 obtain ⟨s277, s278, s279, s280, s281, s282⟩ := t6 hF276 5 s269 42 s270 10 s271 12 s272 14 s273 15 s274
 have s283 : F275 33 = .bool (decide ((cpE f g h p (4 * x) (4 * y) c) ≠ 0)) := (hF276 33).trans rfl
 clear hF276
 refine then_normal ?_
 refine wq_cond s283 (fun c284 => ?_) (fun c284 => ?_)
 ·replace c284 := of_decide_eq_true c284
  refine wq_seq ?_
  have hR := md_no (q := q) (show cpE f g h p (4 * x) (4 * y) c ≠ 0 from by assumption)
  refine wq_region (wl_v (blkV (fun _ => 0)) rfl rfl (y_buildR (cells := (arrL 16 (fun _ => 0)).toArray) rfl (by kernel_rfl) rfl rr) (wl_mv rfl rfl rfl s282 (wl_store_blk blkT_block rfl rfl rfl s280 rfl B265 fun w285 B286 k287 => ?_)))
  have K303 := K266.trans k287 (Grew.ok (S := fun _ => False) gr152 noB_le)
  refine wl_v (iv (cpE f g h p (4 * x) (4 * y) c)) rfl rfl (y_asg rfl rfl rr) (wl_nil fun F304 hF305 => ?_)
  obtain ⟨s306, s307⟩ := t2 hF305 42 s278 12 s280
  have s308 : F304 13 = iv (cpE f g h p (4 * x) (4 * y) c) := (hF305 13).trans rfl
  clear hF305
  refine then_normal (wq_ret (then_ret ?_))
  exact end_2 s306 rfl (res_blk blkT_block rfl s307 B286) (res_tmp (v := iv (cpE f g h p (4 * x) (4 * y) c)) rfl s308) ⟨(by rw [hR.1, hR.2] <;> rfl), K303⟩
 ·replace c284 := of_decide_eq_false c284
  refine wq_skip (then_normal (wq_seq ?_))
  have hR := md_yes (q := q) (show cpE f g h p (4 * x) (4 * y) c = 0 from by first | assumption | (apply Decidable.byContradiction; assumption))
  refine wq_region (wl_v (blkV (cpB f g h p (4 * x) (4 * y) c)) rfl rfl (y_load_blk blkT_block rfl s281 B249 rr) (wl_v (.agg (chW c).toArray) rfl rfl (y_load_stc stcT_choice rfl s279 B264 rr) (wl_mv rfl rfl rfl s277 (wl_cs rfl rfl rfl rfl rfl (fun _ _ => by kernel_rfl) (vsC rfl (vsC rfl (vsC rfl vsN))) (bl_build (cpB f g h p (4 * x) (4 * y) c) c q  _ (hs.all K266) (hw.all K266)  ) fun w309 k310 => ?_))))
  have B325 := B265.all k310 id
  have K327 := K266.tr k310
  refine wl_v (blkV (buB (cpB f g h p (4 * x) (4 * y) c) c.b q)) rfl rfl (y_ext rfl rfl rfl rr) (wl_v (iv (ern q)) rfl rfl (y_ext rfl rfl rfl rr) (wl_store_blk blkT_block rfl rfl rfl s280 rfl B325 fun w328 B329 k330 => ?_))
  have K346 := K327.trans k330 (Grew.ok (S := fun _ => False) gr152 noB_le)
  refine wl_v (iv (ern q)) rfl rfl (y_asg rfl rfl rr) (wl_nil fun F347 hF348 => ?_)
  obtain ⟨s349, s350⟩ := t2 hF348 42 s278 12 s280
  have s351 : F347 13 = iv (ern q) := (hF348 13).trans rfl
  clear hF348
  refine then_normal (wq_ret ?_)
  exact end_2 s349 rfl (res_blk blkT_block rfl s350 B329) (res_tmp (v := iv (ern q)) rfl s351) ⟨(by rw [hR.1, hR.2] <;> rfl), K346⟩
end Go.Proofs.YtknjpdcpmpfklaaGreatDoor
