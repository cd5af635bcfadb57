/- What IntraCosts reaches of my texts, part 4. -/
import Derived.Test.YtdggilbgjijfmaaIntraCostsC
namespace Go.Proofs.Ytdggilbgjijfmaa
open Go.RowKit
def fillL (A s m : Nat) : List Nat := List.replicate m s ++ List.replicate (A - m) 0
theorem fill_length {A s m : Nat} (h : m ≤ A) : (fillL A s m).length = A := by unfold fillL; simp; omega
theorem fill_start {A s pw : Nat} {l : List Nat} (h : l = List.replicate A 0) : fillL A s (0 * pw) = l := by rw [h]; unfold fillL; simp
theorem fill_done {A s : Nat} {l : List Nat} (h : l = List.replicate A s) : l = fillL A s A := by rw [h]; unfold fillL; simp
theorem fill_next {A s a pw y : Nat} (hp : pw ≤ a) :
    fillL A s ((y + 1) * pw) = (fillL A s (y * pw)).take ((((y : Nat) : Int)) * (((pw : Nat) : Int))).toNat ++ ((List.replicate a s).take ((((((y : Nat) : Int)) * (((pw : Nat) : Int))) + (((pw : Nat) : Int))).toNat - ((((y : Nat) : Int)) * (((pw : Nat) : Int))).toNat) ++ (fillL A s (y * pw)).drop (((((y : Nat) : Int)) * (((pw : Nat) : Int))).toNat + min ((((((y : Nat) : Int)) * (((pw : Nat) : Int))) + (((pw : Nat) : Int))).toNat - ((((y : Nat) : Int)) * (((pw : Nat) : Int))).toNat) (List.replicate a s).length)) := by
  have e1 : ((((y : Nat) : Int)) * (((pw : Nat) : Int))).toNat = y * pw := by rw [← Int.natCast_mul, Int.toNat_natCast]
  have e2 : (((((y : Nat) : Int)) * (((pw : Nat) : Int))) + (((pw : Nat) : Int))).toNat = y * pw + pw := by rw [← Int.natCast_mul, ← Int.natCast_add, Int.toNat_natCast]
  rw [e1, e2, show y * pw + pw - y * pw = pw by omega, List.length_replicate, show min pw a = pw by omega, List.take_replicate, show min pw a = pw by omega, Nat.succ_mul]
  unfold fillL
  rw [List.take_append_of_le_length (by simp), List.take_of_length_le (by simp), List.drop_append]
  simp only [List.length_replicate, List.drop_replicate]
  rw [show y * pw - (y * pw + pw) = 0 by omega, show y * pw + pw - y * pw = pw by omega, show A - y * pw - pw = A - (y * pw + pw) by omega, List.replicate_zero, List.nil_append, ← List.append_assoc, List.replicate_append_replicate]
theorem new_planes {w h : Int} (s : Nat) (hsw : sideB w = true) (hsh : sideB h = true) {a b : Nat} (ha : (a : Int) = w) (hb : (b : Int) = h) : (newF w h s).p0 = List.replicate (b * a) s ∧ (newF w h s).p1 = List.replicate (b / 2 * (a / 2)) s ∧ (newF w h s).p2 = List.replicate (b / 2 * (a / 2)) s := by
  have h1 := (sideB_iff _).1 hsw
  have h2 := (sideB_iff _).1 hsh
  subst ha; subst hb
  rw [newF_yes s hsw hsh]
  have e0 : ((a : Int) * (b : Int)).toNat = b * a := by rw [← Int.natCast_mul, Int.toNat_natCast, Nat.mul_comm]
  have e1 : ((a : Int) * (b : Int) / 4).toNat = b / 2 * (a / 2) := by
    rw [← quarter h1.2.2 h2.2.2 (by omega) (by omega), tdiv2 (by omega), tdiv2 (by omega), show (a : Int) / 2 = ((a / 2 : Nat) : Int) by omega, show (b : Int) / 2 = ((b / 2 : Nat) : Int) by omega, ← Int.natCast_mul, Int.toNat_natCast, Nat.mul_comm]
  exact ⟨congrArg (List.replicate · s) e0, congrArg (List.replicate · s) e1, congrArg (List.replicate · s) e1⟩
theorem size_as {w h : Int} (hsw : sideB w = true) (hsh : sideB h = true) {g : FD} (hW : g.W = w) (hH : g.H = h) (h0 : g.p0.length = (newF w h 0).p0.length) (h1 : g.p1.length = (newF w h 0).p1.length) (h2 : g.p2.length = (newF w h 0).p2.length) (k : Nat) (hk : k ≤ 2) {a b : Nat} (ha : (a : Int) = w) (hb : (b : Int) = h) : sizeF g ((k : Nat) : Int) = (((pn2 a (a / 2) k : Nat) : Int), ((pn2 b (b / 2) k : Nat) : Int)) := by
  have hn := new_ok 0 hsw hsh
  have hg : okF g := ok_of hn (by rw [hW, (new_side 0 hsw hsh).1]) (by rw [hH, (new_side 0 hsw hsh).2]) h0 h1 h2
  have s1 := (sideB_iff _).1 hsw
  have s2 := (sideB_iff _).1 hsh
  cases k with
  | zero => show sizeF g 0 = _; rw [sizeF_first hg rfl, hW, hH, ← ha, ← hb]; rfl
  | succ k =>
    rw [sizeF_other hg (by omega) (by omega) (by omega), hW, hH, tdiv2 (by omega), tdiv2 (by omega)]
    simp only [pn2]
    congr 1 <;> omega
theorem size_fst {w h : Int} (hsw : sideB w = true) (hsh : sideB h = true) {g : FD} (hW : g.W = w) (hH : g.H = h) (h0 : g.p0.length = (newF w h 0).p0.length) (h1 : g.p1.length = (newF w h 0).p1.length) (h2 : g.p2.length = (newF w h 0).p2.length) (k : Nat) (hk : k ≤ 2) {a b : Nat} (ha : (a : Int) = w) (hb : (b : Int) = h) : (sizeF g ((k : Nat) : Int)).1 = ((pn2 a (a / 2) k : Nat) : Int) := by rw [size_as hsw hsh hW hH h0 h1 h2 k hk ha hb]
theorem size_snd {w h : Int} (hsw : sideB w = true) (hsh : sideB h = true) {g : FD} (hW : g.W = w) (hH : g.H = h) (h0 : g.p0.length = (newF w h 0).p0.length) (h1 : g.p1.length = (newF w h 0).p1.length) (h2 : g.p2.length = (newF w h 0).p2.length) (k : Nat) (hk : k ≤ 2) {a b : Nat} (ha : (a : Int) = w) (hb : (b : Int) = h) : (sizeF g ((k : Nat) : Int)).2 = ((pn2 b (b / 2) k : Nat) : Int) := by rw [size_as hsw hsh hW hH h0 h1 h2 k hk ha hb]
theorem row_fact {y pw ph : Nat} (h : y < ph) (hp : pw ≤ 64) (hh : ph ≤ 64) : y * pw + pw ≤ ph * pw ∧ 0 ≤ ((y : Nat) : Int) * ((pw : Nat) : Int) ∧ ((y : Nat) : Int) * ((pw : Nat) : Int) ≤ 4096 ∧ ((y : Nat) : Int) * ((pw : Nat) : Int) + ((pw : Nat) : Int) ≤ ((ph * pw : Nat) : Int) := by
  have h1 : (y + 1) * pw ≤ ph * pw := Nat.mul_le_mul_right _ h
  rw [Nat.succ_mul] at h1
  have h2 : y * pw ≤ 64 * 64 := Nat.mul_le_mul (by omega) hp
  rw [← Int.natCast_mul]
  omega
set_option maxHeartbeats 4000000 in
set_option maxRecDepth 100000 in
theorem pl_new (w h : Int) (s : Nat) (w0 : World) (hs : s < 256) :
    Calls Try.prog 18 #[.int .i64 (w), .int .i64 (h), .int .u8 (((s : Nat) : Int))] w0 fun e w' => ∃ (v1 : Value) (T1 : Nat → Prop) (v2 : Value) (T2 : Nat → Prop) (v3 : Value) (T3 : Nat → Prop), e = .returned (.tuple #[.agg #[.int .i64 ((newF w h s).W), .int .i64 ((newF w h s).H), v1, v2, v3], .int .i64 (newE w h)]) ∧ Kept (fun _ => False) w0 w' ∧ (Owb w' T1 v1 ((newF w h s).p0) ∧ Grew w0 noB T1) ∧ (Owb w' T2 v2 ((newF w h s).p1) ∧ Grew w0 noB T2) ∧ (Owb w' T3 v3 ((newF w h s).p2) ∧ Grew w0 noB T3) ∧ Apart T1 T2 ∧ Apart T1 T3 ∧ Apart T2 T3 := by
  refine calls_wq (args := [.int .i64 (w), .int .i64 (h), .int .u8 (((s : Nat) : Int))]) 55 Try.func18 rfl rfl (Nat.le_of_ble_eq_true rfl) ?_
  have K0 := Kept.refl (fun _ => False) w0
  refine wq_seq ?_
  refine wq_region ?_
  refine wl_alloc_stc (n := 5) (vs := [.int .i64 (0), .int .i64 (0), .slice none 0 0, .slice none 0 0, .slice none 0 0]) rfl rfl rfl (by kernel_rfl) fun p1 w2 B4 g5 k3 => ?_
  have gr6 : Grew w0 noB (onB p1) := Grew.new K0 g5
  have K7 := K0.trans k3 (fun _ _ x => x.elim)
  refine wl_v (.int .i64 (0)) rfl rfl (y_asg rfl rfl ⟨rfl, rfl⟩) ?_
  refine wl_nil fun F8 hF9 => ?_
  have s10 : F8 0 = .int .i64 (w) := (hF9 0).trans rfl
  have s11 : F8 1 = .int .i64 (h) := (hF9 1).trans rfl
  have s12 : F8 2 = .int .u8 (((s : Nat) : Int)) := (hF9 2).trans rfl
  have s13 : F8 55 = undef := (hF9 55).trans rfl
  have s14 : F8 6 = .pointer (some ⟨p1, 0, none⟩) := (hF9 6).trans rfl
  clear hF9
  refine then_normal ?_
  refine wq_seq ?_
  refine wq_seq ?_
  rcases Bool.eq_false_or_eq_true (sideB (w)) with d15 | d15
  · skip
    rcases Bool.eq_false_or_eq_true (sideB (h)) with d16 | d16
    · skip
      refine wq_region ?_
      refine wl_v (.int .i64 (w)) rfl rfl (y_mov rfl s10 ⟨rfl, rfl⟩) ?_
      refine wl_call (R := fun v_ w_ => v_ = .bool true ∧ Kept (fun _ => False) w2 w_) rfl rfl (y_cs rfl rfl rfl (fun _ _ => by kernel_rfl) (ev_func _) (vsC rfl vsN) (ps_side (w)  _   ) (fun e_ w_ h_ => ⟨_, h_.1, (congrArg Value.bool d15), h_.2⟩)) ?_
      rintro _ w17 ⟨rfl, k18⟩
      have B19 := B4.all k18 id
      have K20 := K7.trans k18 (fun _ _ x => x.elim)
      refine wl_v (.bool false) rfl rfl (y_not rfl rfl rfl ⟨rfl, rfl⟩) ?_
      refine wl_v (.bool false) rfl rfl (y_mov rfl rfl ⟨rfl, rfl⟩) ?_
      refine wl_vw (.int .i64 (h)) 3 false 17 rfl rfl rfl rfl rfl (y_mov rfl s11 ⟨rfl, rfl⟩) ?_
      refine wl_callw (R := fun v_ w_ => v_ = .bool true ∧ Kept (fun _ => False) w17 w_) 3 false 17 rfl rfl rfl rfl rfl (y_cs rfl rfl rfl (fun _ _ => by kernel_rfl) (ev_func _) (vsC rfl vsN) (ps_side (h)  _   ) (fun e_ w_ h_ => ⟨_, h_.1, (congrArg Value.bool d16), h_.2⟩)) ?_
      rintro _ w21 ⟨rfl, k22⟩
      have B23 := B19.all k22 id
      have K24 := K20.trans k22 (fun _ _ x => x.elim)
      refine wl_vw (.bool false) 3 false 17 rfl rfl rfl rfl rfl (y_not rfl rfl rfl ⟨rfl, rfl⟩) ?_
      refine wl_v (.bool false) rfl rfl (y_pickF rfl rfl rfl ⟨rfl, rfl⟩) ?_
      refine wl_nil fun F25 hF26 => ?_
      have s27 : F25 0 = .int .i64 (w) := (hF26 0).trans s10
      have s28 : F25 1 = .int .i64 (h) := (hF26 1).trans s11
      have s29 : F25 2 = .int .u8 (((s : Nat) : Int)) := (hF26 2).trans s12
      have s30 : F25 55 = undef := (hF26 55).trans s13
      have s31 : F25 6 = .pointer (some ⟨p1, 0, none⟩) := (hF26 6).trans s14
      have s32 : F25 21 = .bool false := (hF26 21).trans rfl
      clear hF26
      refine then_normal ?_
      refine wq_cond (t := false) s32 (fun e => by cases e) (fun _ => ?_)
      refine wq_skip ?_
      refine then_normal ?_
      refine wq_seq ?_
      have hsw : sideB w = true := by assumption
      have hsh : sideB h = true := by assumption
      have hws := (sideB_iff _).1 hsw
      have hhs := (sideB_iff _).1 hsh
      obtain ⟨a, ha⟩ : ∃ n : Nat, (n : Int) = w := ⟨w.toNat, by omega⟩
      obtain ⟨b, hb⟩ : ∃ n : Nat, (n : Int) = h := ⟨h.toNat, by omega⟩
      refine wq_region ?_
      refine wl_v (.int .i64 (w)) rfl rfl (y_mov rfl s27 ⟨rfl, rfl⟩) ?_
      refine wl_v (.int .i64 (h)) rfl rfl (y_mov rfl s28 ⟨rfl, rfl⟩) ?_
      refine wl_call (R := fun v_ w_ => ∃ (v33 : Value) (T38 : Nat → Prop) (v34 : Value) (T39 : Nat → Prop) (v35 : Value) (T40 : Nat → Prop), .agg #[.int .i64 ((newF (w) (h) 0).W), .int .i64 ((newF (w) (h) 0).H), v33, v34, v35] = v_ ∧ Kept (fun _ => False) w21 w_ ∧ (Owb w_ T38 v33 ((newF (w) (h) 0).p0) ∧ Grew w21 noB T38) ∧ (Owb w_ T39 v34 ((newF (w) (h) 0).p1) ∧ Grew w21 noB T39) ∧ (Owb w_ T40 v35 ((newF (w) (h) 0).p2) ∧ Grew w21 noB T40) ∧ Apart T38 T39 ∧ Apart T38 T40 ∧ Apart T39 T40) rfl rfl (y_cs rfl rfl rfl (fun _ _ => by kernel_rfl) (ev_func _) (vsC rfl (vsC rfl vsN)) (ps_blank (w) (h)  _ hsw hsh  ) (fun e_ w_ h_ => by obtain ⟨v33_, T38_, v34_, T39_, v35_, T40_, he_, hr_⟩ := h_; exact ⟨_, he_, v33_, T38_, v34_, T39_, v35_, T40_, rfl, hr_⟩)) ?_
      rintro _ w36 ⟨v33, T38, v34, T39, v35, T40, rfl, k37, ⟨B41, g44⟩, ⟨B42, g45⟩, ⟨B43, g46⟩, ap47, ap48, ap49⟩
      have B50 := B23.all k37 id
      have K51 := K24.trans k37 (fun _ _ x => x.elim)
      have gr52 : Grew w0 noB (T38) := Grew.new K24 g44
      have ap53 : Apart (T38) (onB p1) := Apart.new g44 (onB_live (B23).lt)
      have gr54 : Grew w0 noB (T39) := Grew.new K24 g45
      have ap55 : Apart (T39) (onB p1) := Apart.new g45 (onB_live (B23).lt)
      have gr56 : Grew w0 noB (T40) := Grew.new K24 g46
      have ap57 : Apart (T40) (onB p1) := Apart.new g46 (onB_live (B23).lt)
      refine wl_alloc_stc (n := 5) (vs := [.int .i64 (0), .int .i64 (0), .slice none 0 0, .slice none 0 0, .slice none 0 0]) rfl rfl rfl (by kernel_rfl) fun p58 w59 B61 g62 k60 => ?_
      have gr63 : Grew w0 noB (onB p58) := Grew.new K51 g62
      have ap64 : Apart (onB p58) (onB p1) := Apart.new g62 (onB_live (B50).lt)
      have ap65 : Apart (onB p58) (T38) := Apart.new g62 (B41).live
      have ap66 : Apart (onB p58) (T39) := Apart.new g62 (B42).live
      have ap67 : Apart (onB p58) (T40) := Apart.new g62 (B43).live
      have B68 := B50.all k60 id
      have B69 := B41.all k60 Apart.none
      have B70 := B42.all k60 Apart.none
      have B71 := B43.all k60 Apart.none
      have K72 := K51.trans k60 (fun _ _ x => x.elim)
      refine wl_store_stc (us := [.int .i64 ((newF (w) (h) 0).W), .int .i64 ((newF (w) (h) 0).H), v33, v34, v35]) stcT_frame rfl rfl rfl rfl rfl B61 rfl (oneI rfl (oneI rfl (oneI (B69).one (oneI (B70).one (oneI (B71).one oneN))))) fun w73 B74 k75 => ?_
      have B76 := B68.all k75 (fun x => (((ap64).symm) p1 rfl x))
      have B77 := B69.all k75 (fun i h x => (((ap65).symm) i h x))
      have B78 := B70.all k75 (fun i h x => (((ap66).symm) i h x))
      have B79 := B71.all k75 (fun i h x => (((ap67).symm) i h x))
      have K80 := K72.trans k75 (Grew.ok (S := fun _ => False) gr63 noB_le)
      refine wl_nil fun F81 hF82 => ?_
      have s83 : F81 0 = .int .i64 (w) := (hF82 0).trans s27
      have s84 : F81 2 = .int .u8 (((s : Nat) : Int)) := (hF82 2).trans s29
      have s85 : F81 55 = undef := (hF82 55).trans s30
      have s86 : F81 6 = .pointer (some ⟨p1, 0, none⟩) := (hF82 6).trans s31
      have s87 : F81 8 = .pointer (some ⟨p58, 0, none⟩) := (hF82 8).trans rfl
      clear hF82
      refine then_normal ?_
      refine wq_seq ?_
      have s88 : F81 0 = .int .i64 (((a : Nat) : Int)) := s83.trans (congrArg (Value.int .i64) (ha.symm))
      refine wq_region ?_
      refine wl_v (.int .u8 (((s : Nat) : Int))) rfl rfl (y_mov rfl s84 ⟨rfl, rfl⟩) ?_
      refine wl_builtB1 (n := s) rfl rfl rfl rfl (by omega) (by omega) fun v89 w90 T94 B92 g93 k91 => ?_
      have gr95 : Grew w0 noB (T94) := Grew.new K80 g93
      have ap96 : Apart (T94) (onB p1) := Apart.new g93 (onB_live (B76).lt)
      have ap97 : Apart (T94) (T38) := Apart.new g93 (B77).live
      have ap98 : Apart (T94) (T39) := Apart.new g93 (B78).live
      have ap99 : Apart (T94) (T40) := Apart.new g93 (B79).live
      have ap100 : Apart (T94) (onB p58) := Apart.new g93 (onB_live (B74).lt)
      have B101 := B76.all k91 id
      have B102 := B77.all k91 Apart.none
      have B103 := B78.all k91 Apart.none
      have B104 := B79.all k91 Apart.none
      have B105 := B74.all k91 id
      have K106 := K80.trans k91 (fun _ _ x => x.elim)
      refine wl_v (.int .i64 (((a : Nat) : Int))) rfl rfl (y_mov rfl s88 ⟨rfl, rfl⟩) ?_
      refine wl_call (R := fun v_ w_ => ∃ (v107 : Value) (T110 : Nat → Prop), v107 = v_ ∧ Kept (fun _ => False) w90 w_ ∧ (Byt w_ T110 v107 (List.replicate (a) (s)) ∧ Grew w90 noB T110)) rfl rfl (y_cs rfl rfl rfl (fun _ _ => by kernel_rfl) (ev_func _) (vsC rfl (vsC rfl vsN)) (ps_repeat (v89) ([s]) (s) (a) (T94) _ rfl rfl (by omega) (by omega) (B92).byt ) (fun e_ w_ h_ => by obtain ⟨v107_, T110_, he_, hr_⟩ := h_; exact ⟨_, he_, v107_, T110_, rfl, hr_⟩)) ?_
      rintro _ w108 ⟨v107, T110, rfl, k109, ⟨B111, g112⟩⟩
      have B113 := B101.all k109 id
      have B114 := B102.all k109 Apart.none
      have B115 := B103.all k109 Apart.none
      have B116 := B104.all k109 Apart.none
      have B117 := B105.all k109 id
      have B118 := B92.all k109 Apart.none
      have K119 := K106.trans k109 (fun _ _ x => x.elim)
      have gr120 : Grew w0 noB (T110) := Grew.new K106 g112
      have ap121 : Apart (T110) (onB p1) := Apart.new g112 (onB_live (B101).lt)
      have ap122 : Apart (T110) (T38) := Apart.new g112 (B102).live
      have ap123 : Apart (T110) (T39) := Apart.new g112 (B103).live
      have ap124 : Apart (T110) (T40) := Apart.new g112 (B104).live
      have ap125 : Apart (T110) (onB p58) := Apart.new g112 (onB_live (B105).lt)
      have ap126 : Apart (T110) (T94) := Apart.new g112 (B92).live
      refine wl_v (v107) rfl rfl (y_asg rfl rfl ⟨rfl, rfl⟩) ?_
      refine wl_nil fun F127 hF128 => ?_
      have s129 : F127 55 = undef := (hF128 55).trans s85
      have s130 : F127 6 = .pointer (some ⟨p1, 0, none⟩) := (hF128 6).trans s86
      have s131 : F127 8 = .pointer (some ⟨p58, 0, none⟩) := (hF128 8).trans s87
      have s132 : F127 9 = v107 := (hF128 9).trans rfl
      clear hF128
      refine then_normal ?_
      refine wq_seq ?_
      refine wq_seq ?_
      refine wq_region ?_
      refine wl_v (.int .i64 (0)) rfl rfl (y_mov rfl rfl ⟨rfl, rfl⟩) ?_
      refine wl_nil fun F133 hF134 => ?_
      have s135 : F133 55 = undef := (hF134 55).trans s129
      have s136 : F133 6 = .pointer (some ⟨p1, 0, none⟩) := (hF134 6).trans s130
      have s137 : F133 8 = .pointer (some ⟨p58, 0, none⟩) := (hF134 8).trans s131
      have s138 : F133 9 = v107 := (hF134 9).trans s132
      have s139 : F133 30 = .int .i64 (0) := (hF134 30).trans rfl
      clear hF134
      refine then_normal ?_
      refine wq_block ?_
      refine wq_rounds 4 ?_
      refine wqr_step ?_
      refine wq_seq ?_
      refine wq_region ?_
      refine wl_v (.bool true) rfl rfl (y_lss rfl s139 rfl rfl ⟨rfl, rfl⟩) ?_
      refine wl_nil fun F140 hF141 => ?_
      have s142 : F140 55 = undef := (hF141 55).trans s135
      have s143 : F140 6 = .pointer (some ⟨p1, 0, none⟩) := (hF141 6).trans s136
      have s144 : F140 8 = .pointer (some ⟨p58, 0, none⟩) := (hF141 8).trans s137
      have s145 : F140 9 = v107 := (hF141 9).trans s138
      have s146 : F140 30 = .int .i64 (0) := (hF141 30).trans s139
      have s147 : F140 31 = .bool true := (hF141 31).trans rfl
      clear hF141
      refine then_normal ?_
      refine wq_seq ?_
      refine wq_cond (t := true) s147 (fun _ => ?_) (fun e => by cases e)
      refine wq_skip ?_
      refine then_normal ?_
      refine wq_seq ?_
      refine wq_block ?_
      refine wq_seq ?_
      refine wq_region ?_
      refine wl_v (.int .i64 (0)) rfl rfl (y_mov rfl s146 ⟨rfl, rfl⟩) ?_
      refine wl_v (.int .i64 (0)) rfl rfl (y_asg rfl rfl ⟨rfl, rfl⟩) ?_
      refine wl_nil fun F148 hF149 => ?_
      have s150 : F148 55 = undef := (hF149 55).trans s142
      have s151 : F148 6 = .pointer (some ⟨p1, 0, none⟩) := (hF149 6).trans s143
      have s152 : F148 8 = .pointer (some ⟨p58, 0, none⟩) := (hF149 8).trans s144
      have s153 : F148 9 = v107 := (hF149 9).trans s145
      have s154 : F148 30 = .int .i64 (0) := (hF149 30).trans s146
      have s155 : F148 10 = .int .i64 (0) := (hF149 10).trans rfl
      clear hF149
      refine then_normal ?_
      refine wq_seq ?_
      refine wq_region ?_
      refine wl_v (.agg #[.int .i64 ((newF (w) (h) 0).W), .int .i64 ((newF (w) (h) 0).H), v33, v34, v35]) rfl rfl (y_load_stc stcT_frame rfl s152 B117 ⟨rfl, rfl⟩) ?_
      refine wl_v (.int .i64 (0)) rfl rfl (y_mov rfl s155 ⟨rfl, rfl⟩) ?_
      refine wl_call (R := fun v_ w_ => v_ = .tuple #[.int .i64 ((sizeF (newF (w) (h) 0) (0)).1), .int .i64 ((sizeF (newF (w) (h) 0) (0)).2)] ∧ Kept (fun _ => False) w108 w_) rfl rfl (y_cs rfl rfl rfl (fun _ _ => by kernel_rfl) (ev_func _) (vsC rfl (vsC rfl vsN)) (pl_size (0) (newF (w) (h) 0) (v33) (v34) (v35) (T38) (T39) (T40) _  (B114).byt (B115).byt (B116).byt ) (fun e_ w_ h_ => ⟨_, h_.1, rfl, h_.2⟩)) ?_
      rintro _ w156 ⟨rfl, k157⟩
      have B158 := B113.all k157 id
      have B159 := B114.all k157 Apart.none
      have B160 := B115.all k157 Apart.none
      have B161 := B116.all k157 Apart.none
      have B162 := B117.all k157 id
      have B163 := B118.all k157 Apart.none
      have B164 := B111.all k157 Apart.none
      have K165 := K119.trans k157 (fun _ _ x => x.elim)
      refine wl_v (.tuple #[.int .i64 ((sizeF (newF (w) (h) 0) (0)).1), .int .i64 ((sizeF (newF (w) (h) 0) (0)).2)]) rfl rfl (y_mov rfl rfl ⟨rfl, rfl⟩) ?_
      refine wl_v (.int .i64 ((sizeF (newF (w) (h) 0) (0)).1)) rfl rfl (y_ext rfl rfl rfl ⟨rfl, rfl⟩) ?_
      refine wl_v (.int .i64 ((sizeF (newF (w) (h) 0) (0)).2)) rfl rfl (y_ext rfl rfl rfl ⟨rfl, rfl⟩) ?_
      refine wl_v (.int .i64 ((sizeF (newF (w) (h) 0) (0)).1)) rfl rfl (y_asg rfl rfl ⟨rfl, rfl⟩) ?_
      refine wl_v (.int .i64 ((sizeF (newF (w) (h) 0) (0)).2)) rfl rfl (y_asg rfl rfl ⟨rfl, rfl⟩) ?_
      refine wl_nil fun F166 hF167 => ?_
      have s168 : F166 55 = undef := (hF167 55).trans s150
      have s169 : F166 6 = .pointer (some ⟨p1, 0, none⟩) := (hF167 6).trans s151
      have s170 : F166 8 = .pointer (some ⟨p58, 0, none⟩) := (hF167 8).trans s152
      have s171 : F166 9 = v107 := (hF167 9).trans s153
      have s172 : F166 30 = .int .i64 (0) := (hF167 30).trans s154
      have s173 : F166 10 = .int .i64 (0) := (hF167 10).trans s155
      have s174 : F166 11 = .int .i64 ((sizeF (newF (w) (h) 0) (0)).1) := (hF167 11).trans rfl
      have s175 : F166 12 = .int .i64 ((sizeF (newF (w) (h) 0) (0)).2) := (hF167 12).trans rfl
      clear hF167
      refine then_normal ?_
      refine wq_seq ?_
      obtain ⟨pw0, hpw0⟩ : ∃ q, q = pn2 a (a / 2) 0 := ⟨_, rfl⟩
      obtain ⟨ph0, hph0⟩ : ∃ q, q = pn2 b (b / 2) 0 := ⟨_, rfl⟩
      have hA0 : (newF w h 0).p0 = List.replicate (ph0 * pw0) 0 := by rw [hpw0, hph0]; first | exact (new_planes 0 hsw hsh ha hb).1 | exact (new_planes 0 hsw hsh ha hb).2.1 | exact (new_planes 0 hsw hsh ha hb).2.2
      have hE0 : (newF w h s).p0 = List.replicate (ph0 * pw0) s := by rw [hpw0, hph0]; first | exact (new_planes s hsw hsh ha hb).1 | exact (new_planes s hsw hsh ha hb).2.1 | exact (new_planes s hsw hsh ha hb).2.2
      have hB0 : pw0 ≤ a ∧ pw0 ≤ 64 ∧ ph0 ≤ 64 := by have e1 := pn2_le a (a / 2) 0; have e2 := pn2_le b (b / 2) 0; omega
      have s176 : F166 11 = .int .i64 (((pw0 : Nat) : Int)) := s174.trans (congrArg (Value.int .i64) (by rw [hpw0]; (refine size_fst hsw hsh ?_ ?_ ?_ ?_ ?_ 0 (by decide) ha hb <;> first | exact (new_side 0 hsw hsh).1 | exact (new_side 0 hsw hsh).2 | exact hl0 | exact hl1 | rfl)))
      have s177 : F166 12 = .int .i64 (((ph0 : Nat) : Int)) := s175.trans (congrArg (Value.int .i64) (by rw [hph0]; (refine size_snd hsw hsh ?_ ?_ ?_ ?_ ?_ 0 (by decide) ha hb <;> first | exact (new_side 0 hsw hsh).1 | exact (new_side 0 hsw hsh).2 | exact hl0 | exact hl1 | rfl)))
      refine wq_region ?_
      refine wl_v (.int .i64 (((ph0 : Nat) : Int))) rfl rfl (y_mov rfl s177 ⟨rfl, rfl⟩) ?_
      refine wl_v (.int .i64 (0)) rfl rfl (y_mov rfl rfl ⟨rfl, rfl⟩) ?_
      refine wl_nil fun F178 hF179 => ?_
      have s180 : F178 55 = undef := (hF179 55).trans s168
      have s181 : F178 6 = .pointer (some ⟨p1, 0, none⟩) := (hF179 6).trans s169
      have s182 : F178 8 = .pointer (some ⟨p58, 0, none⟩) := (hF179 8).trans s170
      have s183 : F178 9 = v107 := (hF179 9).trans s171
      have s184 : F178 30 = .int .i64 (0) := (hF179 30).trans s172
      have s185 : F178 10 = .int .i64 (0) := (hF179 10).trans s173
      have s186 : F178 11 = .int .i64 (((pw0 : Nat) : Int)) := (hF179 11).trans s176
      have s187 : F178 39 = .int .i64 (((ph0 : Nat) : Int)) := (hF179 39).trans rfl
      have s188 : F178 40 = .int .i64 (0) := (hF179 40).trans rfl
      clear hF179
      refine then_normal ?_
      refine wq_block ?_
      refine wq_loop (fun nn FF ww => ∃ (y : Nat), ∃ (T189 : Nat → Prop), (y ≤ ph0) ∧ nn = ph0 - y ∧ FF 6 = .pointer (some ⟨p1, 0, none⟩) ∧ FF 8 = .pointer (some ⟨p58, 0, none⟩) ∧ FF 9 = v107 ∧ FF 10 = .int .i64 (0) ∧ FF 11 = .int .i64 (((pw0 : Nat) : Int)) ∧ FF 30 = .int .i64 (0) ∧ FF 39 = .int .i64 (((ph0 : Nat) : Int)) ∧ FF 55 = undef ∧ FF 40 = .int .i64 (((y : Nat) : Int)) ∧ Kept (fun _ => False) w0 ww ∧ Stc ww p1 25 [.int .i64 (0), .int .i64 (0), .slice none 0 0, .slice none 0 0, .slice none 0 0] ∧ Owb ww (T189) v33 (fillL (ph0 * pw0) s (y * pw0)) ∧ Owb ww (T39) v34 ((newF (w) (h) 0).p1) ∧ Owb ww (T40) v35 ((newF (w) (h) 0).p2) ∧ Stc ww p58 25 [.int .i64 ((newF (w) (h) 0).W), .int .i64 ((newF (w) (h) 0).H), v33, v34, v35] ∧ Owb ww (T94) v89 ([s]) ∧ Byt ww (T110) v107 (List.replicate (a) (s)) ∧ Grew w0 (noB) T189 ∧ Apart (T189) (onB p1) ∧ Apart (T189) (T39) ∧ Apart (T189) (T40) ∧ Apart (T189) (onB p58) ∧ Apart (T189) (T94) ∧ Apart (T189) (T110)) (ph0 - (0)) ⟨0, T38, by omega, rfl, s181, s182, s183, s185, s186, s184, s187, s180, s188, K165, B158, Owb.of_eq (fill_start hA0) B159, B160, B161, B162, B163, B164, gr52, ap53, ap47, ap48, (ap65).symm, (ap97).symm, (ap122).symm⟩ ?_
      rintro n193 F190 w191 ⟨y, T189, i194, hn193, s195, s196, s197, s198, s199, s200, s201, s202, s203, K192, B204, B205, B206, B207, B208, B209, B210, gr211, ap212, ap213, ap214, ap215, ap216, ap217⟩
      refine wq_seq ?_
      refine wq_region ?_
      refine wl_v (.bool (decide ((((y : Nat) : Int)) < (((ph0 : Nat) : Int))))) rfl rfl (y_lss rfl s203 s201 rfl ⟨rfl, rfl⟩) ?_
      refine wl_nil fun F218 hF219 => ?_
      have s220 : F218 6 = .pointer (some ⟨p1, 0, none⟩) := (hF219 6).trans s195
      have s221 : F218 8 = .pointer (some ⟨p58, 0, none⟩) := (hF219 8).trans s196
      have s222 : F218 9 = v107 := (hF219 9).trans s197
      have s223 : F218 10 = .int .i64 (0) := (hF219 10).trans s198
      have s224 : F218 11 = .int .i64 (((pw0 : Nat) : Int)) := (hF219 11).trans s199
      have s225 : F218 30 = .int .i64 (0) := (hF219 30).trans s200
      have s226 : F218 39 = .int .i64 (((ph0 : Nat) : Int)) := (hF219 39).trans s201
      have s227 : F218 55 = undef := (hF219 55).trans s202
      have s228 : F218 40 = .int .i64 (((y : Nat) : Int)) := (hF219 40).trans s203
      have s229 : F218 41 = .bool (decide ((((y : Nat) : Int)) < (((ph0 : Nat) : Int)))) := (hF219 41).trans rfl
      clear hF219
      refine then_normal ?_
      refine wq_seq ?_
      refine wq_cond s229 (fun c230 => ?_) (fun c230 => ?_)
      · replace c230 := of_decide_eq_true c230
        refine wq_skip ?_
        refine then_normal ?_
        refine wq_seq ?_
        refine wq_block ?_
        refine wq_seq ?_
        refine wq_region ?_
        refine wl_v (.int .i64 (((y : Nat) : Int))) rfl rfl (y_mov rfl s228 ⟨rfl, rfl⟩) ?_
        refine wl_v (.int .i64 (((y : Nat) : Int))) rfl rfl (y_asg rfl rfl ⟨rfl, rfl⟩) ?_
        refine wl_nil fun F231 hF232 => ?_
        have s233 : F231 6 = .pointer (some ⟨p1, 0, none⟩) := (hF232 6).trans s220
        have s234 : F231 8 = .pointer (some ⟨p58, 0, none⟩) := (hF232 8).trans s221
        have s235 : F231 9 = v107 := (hF232 9).trans s222
        have s236 : F231 10 = .int .i64 (0) := (hF232 10).trans s223
        have s237 : F231 11 = .int .i64 (((pw0 : Nat) : Int)) := (hF232 11).trans s224
        have s238 : F231 30 = .int .i64 (0) := (hF232 30).trans s225
        have s239 : F231 39 = .int .i64 (((ph0 : Nat) : Int)) := (hF232 39).trans s226
        have s240 : F231 55 = undef := (hF232 55).trans s227
        have s241 : F231 40 = .int .i64 (((y : Nat) : Int)) := (hF232 40).trans s228
        have s242 : F231 13 = .int .i64 (((y : Nat) : Int)) := (hF232 13).trans rfl
        clear hF232
        refine then_normal ?_
        have hz := row_fact (y := y) (pw := pw0) (ph := ph0) (by omega) hB0.2.1 hB0.2.2
        have hfl : (fillL (ph0 * pw0) s (y * pw0)).length = ph0 * pw0 := fill_length (by omega)
        refine wq_region ?_
        refine wl_v (.int .i64 (0)) rfl rfl (y_mov rfl s236 ⟨rfl, rfl⟩) ?_
        refine wl_v (.pointer (some ⟨p58, 2, none⟩)) rfl rfl (y_fieldR (n := 3) rfl s234 Try.underlying25 rfl (by kernel_rfl) (by decide) rfl ⟨rfl, rfl⟩) ?_
        refine wl_v (.pointer (some ⟨p58, 2, none⟩)) rfl rfl (y_atR (0) (s := 1) rfl rfl rfl (by omega) Try.underlying23 (by omega) (by kernel_rfl) (by omega) ⟨rfl, rfl⟩) ?_
        refine wl_v (v33) rfl rfl (y_ld_stc rfl rfl Try.underlying22 B208 rfl rfl ⟨rfl, rfl⟩) ?_
        refine wl_v (.int .i64 (((pw0 : Nat) : Int))) rfl rfl (y_mov rfl s237 ⟨rfl, rfl⟩) ?_
        refine wl_v (.int .i64 (((y : Nat) : Int))) rfl rfl (y_mov rfl s242 ⟨rfl, rfl⟩) ?_
        refine wl_call (R := fun v_ w_ => v_ = subV (v33) (((((y : Nat) : Int)) * (((pw0 : Nat) : Int))).toNat) (((((y : Nat) : Int)) * (((pw0 : Nat) : Int)) + (((pw0 : Nat) : Int))).toNat) (((((y : Nat) : Int)) * (((pw0 : Nat) : Int)) + (((pw0 : Nat) : Int))).toNat) ∧ Kept (fun _ => False) w191 w_) rfl rfl (y_cs rfl rfl rfl (fun _ _ => by kernel_rfl) (ev_func _) (vsC rfl (vsC rfl (vsC rfl vsN))) (ps_row (v33) (fillL (ph0 * pw0) s (y * pw0)) (((pw0 : Nat) : Int)) (((y : Nat) : Int)) (T189) _ (by omega) (by omega) (by rw [hfl]; exact hz.2.2.2) (by omega) (B205).byt ) (fun e_ w_ h_ => ⟨_, h_.1, rfl, h_.2⟩)) ?_
        rintro _ w243 ⟨rfl, k244⟩
        have B245 := B204.all k244 id
        have B246 := B205.all k244 Apart.none
        have B247 := B206.all k244 Apart.none
        have B248 := B207.all k244 Apart.none
        have B249 := B208.all k244 id
        have B250 := B209.all k244 Apart.none
        have B251 := B210.all k244 Apart.none
        have K252 := K192.trans k244 (fun _ _ x => x.elim)
        refine wl_v (v107) rfl rfl (y_mov rfl s235 ⟨rfl, rfl⟩) ?_
        refine wl_copyM rfl rfl rfl rfl rfl (part_sub (B246).byt (by omega)) rfl B246 B251 (by rw [hfl]; omega) fun w254 B256 k255 => ?_
        have B259 := B245.all k255 (fun x => (((ap212).symm) p1 rfl x))
        have B260 := B247.all k255 (fun i h x => (((ap213).symm) i h x))
        have B261 := B248.all k255 (fun i h x => (((ap214).symm) i h x))
        have B262 := B249.all k255 (fun x => (((ap215).symm) p58 rfl x))
        have B263 := B250.all k255 (fun i h x => (((ap216).symm) i h x))
        have B264 := B251.all k255 (fun i h x => (((ap217).symm) i h x))
        have K265 := K252.trans k255 (Grew.ok (S := fun _ => False) gr211 noB_le)
        refine wl_nil fun F266 hF267 => ?_
        have s268 : F266 6 = .pointer (some ⟨p1, 0, none⟩) := (hF267 6).trans s233
        have s269 : F266 8 = .pointer (some ⟨p58, 0, none⟩) := (hF267 8).trans s234
        have s270 : F266 9 = v107 := (hF267 9).trans s235
        have s271 : F266 10 = .int .i64 (0) := (hF267 10).trans s236
        have s272 : F266 11 = .int .i64 (((pw0 : Nat) : Int)) := (hF267 11).trans s237
        have s273 : F266 30 = .int .i64 (0) := (hF267 30).trans s238
        have s274 : F266 39 = .int .i64 (((ph0 : Nat) : Int)) := (hF267 39).trans s239
        have s275 : F266 55 = undef := (hF267 55).trans s240
        have s276 : F266 40 = .int .i64 (((y : Nat) : Int)) := (hF267 40).trans s241
        clear hF267
        refine in_normal ?_
        refine then_normal ?_
        refine wq_region ?_
        refine wl_v (.int .i64 (((y + 1 : Nat) : Int))) rfl rfl (y_add rfl s276 rfl (i64_n (by omega) (by omega)) ⟨rfl, rfl⟩) ?_
        refine wl_v (.int .i64 (((y + 1 : Nat) : Int))) rfl rfl (y_mov rfl rfl ⟨rfl, rfl⟩) ?_
        refine wl_nil fun F277 hF278 => ?_
        have s279 : F277 6 = .pointer (some ⟨p1, 0, none⟩) := (hF278 6).trans s268
        have s280 : F277 8 = .pointer (some ⟨p58, 0, none⟩) := (hF278 8).trans s269
        have s281 : F277 9 = v107 := (hF278 9).trans s270
        have s282 : F277 10 = .int .i64 (0) := (hF278 10).trans s271
        have s283 : F277 11 = .int .i64 (((pw0 : Nat) : Int)) := (hF278 11).trans s272
        have s284 : F277 30 = .int .i64 (0) := (hF278 30).trans s273
        have s285 : F277 39 = .int .i64 (((ph0 : Nat) : Int)) := (hF278 39).trans s274
        have s286 : F277 55 = undef := (hF278 55).trans s275
        have s287 : F277 40 = .int .i64 (((y + 1 : Nat) : Int)) := (hF278 40).trans rfl
        clear hF278
        exact then_normal ⟨(ph0 - (y + 1)), by omega, y + 1, T189, by omega, rfl, s279, s280, s281, s282, s283, s284, s285, s286, s287, K265, B259, Owb.of_eq (fill_next hB0.1) B256, B260, B261, B262, B263, B264, gr211, ap212, ap213, ap214, ap215, ap216, ap217⟩
      · replace c230 := of_decide_eq_false c230
        refine wq_exit ?_
        refine then_exit ?_
        refine then_exit ?_
        have l288 : ph0 = y := by omega
        subst l288
        have hl0 : (fillL (ph0 * pw0) s (ph0 * pw0)).length = (newF w h 0).p0.length := by rw [fill_length (Nat.le_refl _), hA0, List.length_replicate]
        refine in_here ?_
        refine in_normal ?_
        refine then_normal ?_
        refine wq_region ?_
        refine wl_v (.int .i64 (((1 : Nat) : Int))) rfl rfl (y_add rfl s225 rfl (i64_n (by omega) (by omega)) ⟨rfl, rfl⟩) ?_
        refine wl_v (.int .i64 (((1 : Nat) : Int))) rfl rfl (y_mov rfl rfl ⟨rfl, rfl⟩) ?_
        refine wl_nil fun F289 hF290 => ?_
        have s291 : F289 6 = .pointer (some ⟨p1, 0, none⟩) := (hF290 6).trans s220
        have s292 : F289 8 = .pointer (some ⟨p58, 0, none⟩) := (hF290 8).trans s221
        have s293 : F289 9 = v107 := (hF290 9).trans s222
        have s294 : F289 55 = undef := (hF290 55).trans s227
        have s295 : F289 30 = .int .i64 (((1 : Nat) : Int)) := (hF290 30).trans rfl
        clear hF290
        refine then_normal ?_
        refine wqr_step ?_
        refine wq_seq ?_
        refine wq_region ?_
        refine wl_v (.bool true) rfl rfl (y_lss rfl s295 rfl rfl ⟨rfl, rfl⟩) ?_
        refine wl_nil fun F296 hF297 => ?_
        have s298 : F296 6 = .pointer (some ⟨p1, 0, none⟩) := (hF297 6).trans s291
        have s299 : F296 8 = .pointer (some ⟨p58, 0, none⟩) := (hF297 8).trans s292
        have s300 : F296 9 = v107 := (hF297 9).trans s293
        have s301 : F296 55 = undef := (hF297 55).trans s294
        have s302 : F296 30 = .int .i64 (((1 : Nat) : Int)) := (hF297 30).trans s295
        have s303 : F296 31 = .bool true := (hF297 31).trans rfl
        clear hF297
        refine then_normal ?_
        refine wq_seq ?_
        refine wq_cond (t := true) s303 (fun _ => ?_) (fun e => by cases e)
        refine wq_skip ?_
        refine then_normal ?_
        refine wq_seq ?_
        refine wq_block ?_
        refine wq_seq ?_
        refine wq_region ?_
        refine wl_v (.int .i64 (((1 : Nat) : Int))) rfl rfl (y_mov rfl s302 ⟨rfl, rfl⟩) ?_
        refine wl_v (.int .i64 (((1 : Nat) : Int))) rfl rfl (y_asg rfl rfl ⟨rfl, rfl⟩) ?_
        refine wl_nil fun F304 hF305 => ?_
        have s306 : F304 6 = .pointer (some ⟨p1, 0, none⟩) := (hF305 6).trans s298
        have s307 : F304 8 = .pointer (some ⟨p58, 0, none⟩) := (hF305 8).trans s299
        have s308 : F304 9 = v107 := (hF305 9).trans s300
        have s309 : F304 55 = undef := (hF305 55).trans s301
        have s310 : F304 30 = .int .i64 (((1 : Nat) : Int)) := (hF305 30).trans s302
        have s311 : F304 10 = .int .i64 (((1 : Nat) : Int)) := (hF305 10).trans rfl
        clear hF305
        refine then_normal ?_
        refine wq_seq ?_
        refine wq_region ?_
        refine wl_v (.agg #[.int .i64 ((newF (w) (h) 0).W), .int .i64 ((newF (w) (h) 0).H), v33, v34, v35]) rfl rfl (y_load_stc stcT_frame rfl s307 B208 ⟨rfl, rfl⟩) ?_
        refine wl_v (.int .i64 (((1 : Nat) : Int))) rfl rfl (y_mov rfl s311 ⟨rfl, rfl⟩) ?_
        refine wl_call (R := fun v_ w_ => v_ = .tuple #[.int .i64 ((sizeF (FD.mk ((newF (w) (h) 0).W) ((newF (w) (h) 0).H) (fillL (ph0 * pw0) s (ph0 * pw0)) ((newF (w) (h) 0).p1) ((newF (w) (h) 0).p2)) (((1 : Nat) : Int))).1), .int .i64 ((sizeF (FD.mk ((newF (w) (h) 0).W) ((newF (w) (h) 0).H) (fillL (ph0 * pw0) s (ph0 * pw0)) ((newF (w) (h) 0).p1) ((newF (w) (h) 0).p2)) (((1 : Nat) : Int))).2)] ∧ Kept (fun _ => False) w191 w_) rfl rfl (y_cs rfl rfl rfl (fun _ _ => by kernel_rfl) (ev_func _) (vsC rfl (vsC rfl vsN)) (pl_size (((1 : Nat) : Int)) (FD.mk ((newF (w) (h) 0).W) ((newF (w) (h) 0).H) (fillL (ph0 * pw0) s (ph0 * pw0)) ((newF (w) (h) 0).p1) ((newF (w) (h) 0).p2)) (v33) (v34) (v35) (T189) (T39) (T40) _  (B205).byt (B206).byt (B207).byt ) (fun e_ w_ h_ => ⟨_, h_.1, rfl, h_.2⟩)) ?_
        rintro _ w312 ⟨rfl, k313⟩
        have B314 := B204.all k313 id
        have B315 := B205.all k313 Apart.none
        have B316 := B206.all k313 Apart.none
        have B317 := B207.all k313 Apart.none
        have B318 := B208.all k313 id
        have B319 := B209.all k313 Apart.none
        have B320 := B210.all k313 Apart.none
        have K321 := K192.trans k313 (fun _ _ x => x.elim)
        refine wl_v (.tuple #[.int .i64 ((sizeF (FD.mk ((newF (w) (h) 0).W) ((newF (w) (h) 0).H) (fillL (ph0 * pw0) s (ph0 * pw0)) ((newF (w) (h) 0).p1) ((newF (w) (h) 0).p2)) (((1 : Nat) : Int))).1), .int .i64 ((sizeF (FD.mk ((newF (w) (h) 0).W) ((newF (w) (h) 0).H) (fillL (ph0 * pw0) s (ph0 * pw0)) ((newF (w) (h) 0).p1) ((newF (w) (h) 0).p2)) (((1 : Nat) : Int))).2)]) rfl rfl (y_mov rfl rfl ⟨rfl, rfl⟩) ?_
        refine wl_v (.int .i64 ((sizeF (FD.mk ((newF (w) (h) 0).W) ((newF (w) (h) 0).H) (fillL (ph0 * pw0) s (ph0 * pw0)) ((newF (w) (h) 0).p1) ((newF (w) (h) 0).p2)) (((1 : Nat) : Int))).1)) rfl rfl (y_ext rfl rfl rfl ⟨rfl, rfl⟩) ?_
        refine wl_v (.int .i64 ((sizeF (FD.mk ((newF (w) (h) 0).W) ((newF (w) (h) 0).H) (fillL (ph0 * pw0) s (ph0 * pw0)) ((newF (w) (h) 0).p1) ((newF (w) (h) 0).p2)) (((1 : Nat) : Int))).2)) rfl rfl (y_ext rfl rfl rfl ⟨rfl, rfl⟩) ?_
        refine wl_v (.int .i64 ((sizeF (FD.mk ((newF (w) (h) 0).W) ((newF (w) (h) 0).H) (fillL (ph0 * pw0) s (ph0 * pw0)) ((newF (w) (h) 0).p1) ((newF (w) (h) 0).p2)) (((1 : Nat) : Int))).1)) rfl rfl (y_asg rfl rfl ⟨rfl, rfl⟩) ?_
        refine wl_v (.int .i64 ((sizeF (FD.mk ((newF (w) (h) 0).W) ((newF (w) (h) 0).H) (fillL (ph0 * pw0) s (ph0 * pw0)) ((newF (w) (h) 0).p1) ((newF (w) (h) 0).p2)) (((1 : Nat) : Int))).2)) rfl rfl (y_asg rfl rfl ⟨rfl, rfl⟩) ?_
        refine wl_nil fun F322 hF323 => ?_
        have s324 : F322 6 = .pointer (some ⟨p1, 0, none⟩) := (hF323 6).trans s306
        have s325 : F322 8 = .pointer (some ⟨p58, 0, none⟩) := (hF323 8).trans s307
        have s326 : F322 9 = v107 := (hF323 9).trans s308
        have s327 : F322 55 = undef := (hF323 55).trans s309
        have s328 : F322 30 = .int .i64 (((1 : Nat) : Int)) := (hF323 30).trans s310
        have s329 : F322 10 = .int .i64 (((1 : Nat) : Int)) := (hF323 10).trans s311
        have s330 : F322 11 = .int .i64 ((sizeF (FD.mk ((newF (w) (h) 0).W) ((newF (w) (h) 0).H) (fillL (ph0 * pw0) s (ph0 * pw0)) ((newF (w) (h) 0).p1) ((newF (w) (h) 0).p2)) (((1 : Nat) : Int))).1) := (hF323 11).trans rfl
        have s331 : F322 12 = .int .i64 ((sizeF (FD.mk ((newF (w) (h) 0).W) ((newF (w) (h) 0).H) (fillL (ph0 * pw0) s (ph0 * pw0)) ((newF (w) (h) 0).p1) ((newF (w) (h) 0).p2)) (((1 : Nat) : Int))).2) := (hF323 12).trans rfl
        clear hF323
        refine then_normal ?_
        refine wq_seq ?_
        obtain ⟨pw1, hpw1⟩ : ∃ q, q = pn2 a (a / 2) 1 := ⟨_, rfl⟩
        obtain ⟨ph1, hph1⟩ : ∃ q, q = pn2 b (b / 2) 1 := ⟨_, rfl⟩
        have hA1 : (newF w h 0).p1 = List.replicate (ph1 * pw1) 0 := by rw [hpw1, hph1]; first | exact (new_planes 0 hsw hsh ha hb).1 | exact (new_planes 0 hsw hsh ha hb).2.1 | exact (new_planes 0 hsw hsh ha hb).2.2
        have hE1 : (newF w h s).p1 = List.replicate (ph1 * pw1) s := by rw [hpw1, hph1]; first | exact (new_planes s hsw hsh ha hb).1 | exact (new_planes s hsw hsh ha hb).2.1 | exact (new_planes s hsw hsh ha hb).2.2
        have hB1 : pw1 ≤ a ∧ pw1 ≤ 64 ∧ ph1 ≤ 64 := by have e1 := pn2_le a (a / 2) 1; have e2 := pn2_le b (b / 2) 1; omega
        have s332 : F322 11 = .int .i64 (((pw1 : Nat) : Int)) := s330.trans (congrArg (Value.int .i64) (by rw [hpw1]; (refine size_fst hsw hsh ?_ ?_ ?_ ?_ ?_ 1 (by decide) ha hb <;> first | exact (new_side 0 hsw hsh).1 | exact (new_side 0 hsw hsh).2 | exact hl0 | exact hl1 | rfl)))
        have s333 : F322 12 = .int .i64 (((ph1 : Nat) : Int)) := s331.trans (congrArg (Value.int .i64) (by rw [hph1]; (refine size_snd hsw hsh ?_ ?_ ?_ ?_ ?_ 1 (by decide) ha hb <;> first | exact (new_side 0 hsw hsh).1 | exact (new_side 0 hsw hsh).2 | exact hl0 | exact hl1 | rfl)))
        refine wq_region ?_
        refine wl_v (.int .i64 (((ph1 : Nat) : Int))) rfl rfl (y_mov rfl s333 ⟨rfl, rfl⟩) ?_
        refine wl_v (.int .i64 (0)) rfl rfl (y_mov rfl rfl ⟨rfl, rfl⟩) ?_
        refine wl_nil fun F334 hF335 => ?_
        have s336 : F334 6 = .pointer (some ⟨p1, 0, none⟩) := (hF335 6).trans s324
        have s337 : F334 8 = .pointer (some ⟨p58, 0, none⟩) := (hF335 8).trans s325
        have s338 : F334 9 = v107 := (hF335 9).trans s326
        have s339 : F334 55 = undef := (hF335 55).trans s327
        have s340 : F334 30 = .int .i64 (((1 : Nat) : Int)) := (hF335 30).trans s328
        have s341 : F334 10 = .int .i64 (((1 : Nat) : Int)) := (hF335 10).trans s329
        have s342 : F334 11 = .int .i64 (((pw1 : Nat) : Int)) := (hF335 11).trans s332
        have s343 : F334 39 = .int .i64 (((ph1 : Nat) : Int)) := (hF335 39).trans rfl
        have s344 : F334 40 = .int .i64 (0) := (hF335 40).trans rfl
        clear hF335
        refine then_normal ?_
        refine wq_block ?_
        refine wq_loop (fun nn FF ww => ∃ (y : Nat), ∃ (T345 : Nat → Prop), (y ≤ ph1) ∧ nn = ph1 - y ∧ FF 6 = .pointer (some ⟨p1, 0, none⟩) ∧ FF 8 = .pointer (some ⟨p58, 0, none⟩) ∧ FF 9 = v107 ∧ FF 10 = .int .i64 (((1 : Nat) : Int)) ∧ FF 11 = .int .i64 (((pw1 : Nat) : Int)) ∧ FF 30 = .int .i64 (((1 : Nat) : Int)) ∧ FF 39 = .int .i64 (((ph1 : Nat) : Int)) ∧ FF 55 = undef ∧ FF 40 = .int .i64 (((y : Nat) : Int)) ∧ Kept (fun _ => False) w0 ww ∧ Stc ww p1 25 [.int .i64 (0), .int .i64 (0), .slice none 0 0, .slice none 0 0, .slice none 0 0] ∧ Owb ww (T189) v33 (fillL (ph0 * pw0) s (ph0 * pw0)) ∧ Owb ww (T345) v34 (fillL (ph1 * pw1) s (y * pw1)) ∧ Owb ww (T40) v35 ((newF (w) (h) 0).p2) ∧ Stc ww p58 25 [.int .i64 ((newF (w) (h) 0).W), .int .i64 ((newF (w) (h) 0).H), v33, v34, v35] ∧ Owb ww (T94) v89 ([s]) ∧ Byt ww (T110) v107 (List.replicate (a) (s)) ∧ Grew w0 (noB) T345 ∧ Apart (T345) (onB p1) ∧ Apart (T345) (T189) ∧ Apart (T345) (T40) ∧ Apart (T345) (onB p58) ∧ Apart (T345) (T94) ∧ Apart (T345) (T110)) (ph1 - (0)) ⟨0, T39, by omega, rfl, s336, s337, s338, s341, s342, s340, s343, s339, s344, K321, B314, B315, Owb.of_eq (fill_start hA1) B316, B317, B318, B319, B320, gr54, ap55, (ap213).symm, ap49, (ap66).symm, (ap98).symm, (ap123).symm⟩ ?_
        rintro n349 F346 w347 ⟨y, T345, i350, hn349, s351, s352, s353, s354, s355, s356, s357, s358, s359, K348, B360, B361, B362, B363, B364, B365, B366, gr367, ap368, ap369, ap370, ap371, ap372, ap373⟩
        refine wq_seq ?_
        refine wq_region ?_
        refine wl_v (.bool (decide ((((y : Nat) : Int)) < (((ph1 : Nat) : Int))))) rfl rfl (y_lss rfl s359 s357 rfl ⟨rfl, rfl⟩) ?_
        refine wl_nil fun F374 hF375 => ?_
        have s376 : F374 6 = .pointer (some ⟨p1, 0, none⟩) := (hF375 6).trans s351
        have s377 : F374 8 = .pointer (some ⟨p58, 0, none⟩) := (hF375 8).trans s352
        have s378 : F374 9 = v107 := (hF375 9).trans s353
        have s379 : F374 10 = .int .i64 (((1 : Nat) : Int)) := (hF375 10).trans s354
        have s380 : F374 11 = .int .i64 (((pw1 : Nat) : Int)) := (hF375 11).trans s355
        have s381 : F374 30 = .int .i64 (((1 : Nat) : Int)) := (hF375 30).trans s356
        have s382 : F374 39 = .int .i64 (((ph1 : Nat) : Int)) := (hF375 39).trans s357
        have s383 : F374 55 = undef := (hF375 55).trans s358
        have s384 : F374 40 = .int .i64 (((y : Nat) : Int)) := (hF375 40).trans s359
        have s385 : F374 41 = .bool (decide ((((y : Nat) : Int)) < (((ph1 : Nat) : Int)))) := (hF375 41).trans rfl
        clear hF375
        refine then_normal ?_
        refine wq_seq ?_
        refine wq_cond s385 (fun c386 => ?_) (fun c386 => ?_)
        · replace c386 := of_decide_eq_true c386
          refine wq_skip ?_
          refine then_normal ?_
          refine wq_seq ?_
          refine wq_block ?_
          refine wq_seq ?_
          refine wq_region ?_
          refine wl_v (.int .i64 (((y : Nat) : Int))) rfl rfl (y_mov rfl s384 ⟨rfl, rfl⟩) ?_
          refine wl_v (.int .i64 (((y : Nat) : Int))) rfl rfl (y_asg rfl rfl ⟨rfl, rfl⟩) ?_
          refine wl_nil fun F387 hF388 => ?_
          have s389 : F387 6 = .pointer (some ⟨p1, 0, none⟩) := (hF388 6).trans s376
          have s390 : F387 8 = .pointer (some ⟨p58, 0, none⟩) := (hF388 8).trans s377
          have s391 : F387 9 = v107 := (hF388 9).trans s378
          have s392 : F387 10 = .int .i64 (((1 : Nat) : Int)) := (hF388 10).trans s379
          have s393 : F387 11 = .int .i64 (((pw1 : Nat) : Int)) := (hF388 11).trans s380
          have s394 : F387 30 = .int .i64 (((1 : Nat) : Int)) := (hF388 30).trans s381
          have s395 : F387 39 = .int .i64 (((ph1 : Nat) : Int)) := (hF388 39).trans s382
          have s396 : F387 55 = undef := (hF388 55).trans s383
          have s397 : F387 40 = .int .i64 (((y : Nat) : Int)) := (hF388 40).trans s384
          have s398 : F387 13 = .int .i64 (((y : Nat) : Int)) := (hF388 13).trans rfl
          clear hF388
          refine then_normal ?_
          have hz := row_fact (y := y) (pw := pw1) (ph := ph1) (by omega) hB1.2.1 hB1.2.2
          have hfl : (fillL (ph1 * pw1) s (y * pw1)).length = ph1 * pw1 := fill_length (by omega)
          refine wq_region ?_
          refine wl_v (.int .i64 (((1 : Nat) : Int))) rfl rfl (y_mov rfl s392 ⟨rfl, rfl⟩) ?_
          refine wl_v (.pointer (some ⟨p58, 2, none⟩)) rfl rfl (y_fieldR (n := 3) rfl s390 Try.underlying25 rfl (by kernel_rfl) (by decide) rfl ⟨rfl, rfl⟩) ?_
          refine wl_v (.pointer (some ⟨p58, 3, none⟩)) rfl rfl (y_atR (1) (s := 1) rfl rfl rfl (by omega) Try.underlying23 (by omega) (by kernel_rfl) (by omega) ⟨rfl, rfl⟩) ?_
          refine wl_v (v34) rfl rfl (y_ld_stc rfl rfl Try.underlying22 B364 rfl rfl ⟨rfl, rfl⟩) ?_
          refine wl_v (.int .i64 (((pw1 : Nat) : Int))) rfl rfl (y_mov rfl s393 ⟨rfl, rfl⟩) ?_
          refine wl_v (.int .i64 (((y : Nat) : Int))) rfl rfl (y_mov rfl s398 ⟨rfl, rfl⟩) ?_
          refine wl_call (R := fun v_ w_ => v_ = subV (v34) (((((y : Nat) : Int)) * (((pw1 : Nat) : Int))).toNat) (((((y : Nat) : Int)) * (((pw1 : Nat) : Int)) + (((pw1 : Nat) : Int))).toNat) (((((y : Nat) : Int)) * (((pw1 : Nat) : Int)) + (((pw1 : Nat) : Int))).toNat) ∧ Kept (fun _ => False) w347 w_) rfl rfl (y_cs rfl rfl rfl (fun _ _ => by kernel_rfl) (ev_func _) (vsC rfl (vsC rfl (vsC rfl vsN))) (ps_row (v34) (fillL (ph1 * pw1) s (y * pw1)) (((pw1 : Nat) : Int)) (((y : Nat) : Int)) (T345) _ (by omega) (by omega) (by rw [hfl]; exact hz.2.2.2) (by omega) (B362).byt ) (fun e_ w_ h_ => ⟨_, h_.1, rfl, h_.2⟩)) ?_
          rintro _ w399 ⟨rfl, k400⟩
          have B401 := B360.all k400 id
          have B402 := B361.all k400 Apart.none
          have B403 := B362.all k400 Apart.none
          have B404 := B363.all k400 Apart.none
          have B405 := B364.all k400 id
          have B406 := B365.all k400 Apart.none
          have B407 := B366.all k400 Apart.none
          have K408 := K348.trans k400 (fun _ _ x => x.elim)
          refine wl_v (v107) rfl rfl (y_mov rfl s391 ⟨rfl, rfl⟩) ?_
          refine wl_copyM rfl rfl rfl rfl rfl (part_sub (B403).byt (by omega)) rfl B403 B407 (by rw [hfl]; omega) fun w410 B412 k411 => ?_
          have B415 := B401.all k411 (fun x => (((ap368).symm) p1 rfl x))
          have B416 := B402.all k411 (fun i h x => (((ap369).symm) i h x))
          have B417 := B404.all k411 (fun i h x => (((ap370).symm) i h x))
          have B418 := B405.all k411 (fun x => (((ap371).symm) p58 rfl x))
          have B419 := B406.all k411 (fun i h x => (((ap372).symm) i h x))
          have B420 := B407.all k411 (fun i h x => (((ap373).symm) i h x))
          have K421 := K408.trans k411 (Grew.ok (S := fun _ => False) gr367 noB_le)
          refine wl_nil fun F422 hF423 => ?_
          have s424 : F422 6 = .pointer (some ⟨p1, 0, none⟩) := (hF423 6).trans s389
          have s425 : F422 8 = .pointer (some ⟨p58, 0, none⟩) := (hF423 8).trans s390
          have s426 : F422 9 = v107 := (hF423 9).trans s391
          have s427 : F422 10 = .int .i64 (((1 : Nat) : Int)) := (hF423 10).trans s392
          have s428 : F422 11 = .int .i64 (((pw1 : Nat) : Int)) := (hF423 11).trans s393
          have s429 : F422 30 = .int .i64 (((1 : Nat) : Int)) := (hF423 30).trans s394
          have s430 : F422 39 = .int .i64 (((ph1 : Nat) : Int)) := (hF423 39).trans s395
          have s431 : F422 55 = undef := (hF423 55).trans s396
          have s432 : F422 40 = .int .i64 (((y : Nat) : Int)) := (hF423 40).trans s397
          clear hF423
          refine in_normal ?_
          refine then_normal ?_
          refine wq_region ?_
          refine wl_v (.int .i64 (((y + 1 : Nat) : Int))) rfl rfl (y_add rfl s432 rfl (i64_n (by omega) (by omega)) ⟨rfl, rfl⟩) ?_
          refine wl_v (.int .i64 (((y + 1 : Nat) : Int))) rfl rfl (y_mov rfl rfl ⟨rfl, rfl⟩) ?_
          refine wl_nil fun F433 hF434 => ?_
          have s435 : F433 6 = .pointer (some ⟨p1, 0, none⟩) := (hF434 6).trans s424
          have s436 : F433 8 = .pointer (some ⟨p58, 0, none⟩) := (hF434 8).trans s425
          have s437 : F433 9 = v107 := (hF434 9).trans s426
          have s438 : F433 10 = .int .i64 (((1 : Nat) : Int)) := (hF434 10).trans s427
          have s439 : F433 11 = .int .i64 (((pw1 : Nat) : Int)) := (hF434 11).trans s428
          have s440 : F433 30 = .int .i64 (((1 : Nat) : Int)) := (hF434 30).trans s429
          have s441 : F433 39 = .int .i64 (((ph1 : Nat) : Int)) := (hF434 39).trans s430
          have s442 : F433 55 = undef := (hF434 55).trans s431
          have s443 : F433 40 = .int .i64 (((y + 1 : Nat) : Int)) := (hF434 40).trans rfl
          clear hF434
          exact then_normal ⟨(ph1 - (y + 1)), by omega, y + 1, T345, by omega, rfl, s435, s436, s437, s438, s439, s440, s441, s442, s443, K421, B415, B416, Owb.of_eq (fill_next hB1.1) B412, B417, B418, B419, B420, gr367, ap368, ap369, ap370, ap371, ap372, ap373⟩
        · replace c386 := of_decide_eq_false c386
          refine wq_exit ?_
          refine then_exit ?_
          refine then_exit ?_
          have l444 : ph1 = y := by omega
          subst l444
          have hl1 : (fillL (ph1 * pw1) s (ph1 * pw1)).length = (newF w h 0).p1.length := by rw [fill_length (Nat.le_refl _), hA1, List.length_replicate]
          refine in_here ?_
          refine in_normal ?_
          refine then_normal ?_
          refine wq_region ?_
          refine wl_v (.int .i64 (((2 : Nat) : Int))) rfl rfl (y_add rfl s381 rfl (i64_n (by omega) (by omega)) ⟨rfl, rfl⟩) ?_
          refine wl_v (.int .i64 (((2 : Nat) : Int))) rfl rfl (y_mov rfl rfl ⟨rfl, rfl⟩) ?_
          refine wl_nil fun F445 hF446 => ?_
          have s447 : F445 6 = .pointer (some ⟨p1, 0, none⟩) := (hF446 6).trans s376
          have s448 : F445 8 = .pointer (some ⟨p58, 0, none⟩) := (hF446 8).trans s377
          have s449 : F445 9 = v107 := (hF446 9).trans s378
          have s450 : F445 55 = undef := (hF446 55).trans s383
          have s451 : F445 30 = .int .i64 (((2 : Nat) : Int)) := (hF446 30).trans rfl
          clear hF446
          refine then_normal ?_
          refine wqr_step ?_
          refine wq_seq ?_
          refine wq_region ?_
          refine wl_v (.bool true) rfl rfl (y_lss rfl s451 rfl rfl ⟨rfl, rfl⟩) ?_
          refine wl_nil fun F452 hF453 => ?_
          have s454 : F452 6 = .pointer (some ⟨p1, 0, none⟩) := (hF453 6).trans s447
          have s455 : F452 8 = .pointer (some ⟨p58, 0, none⟩) := (hF453 8).trans s448
          have s456 : F452 9 = v107 := (hF453 9).trans s449
          have s457 : F452 55 = undef := (hF453 55).trans s450
          have s458 : F452 30 = .int .i64 (((2 : Nat) : Int)) := (hF453 30).trans s451
          have s459 : F452 31 = .bool true := (hF453 31).trans rfl
          clear hF453
          refine then_normal ?_
          refine wq_seq ?_
          refine wq_cond (t := true) s459 (fun _ => ?_) (fun e => by cases e)
          refine wq_skip ?_
          refine then_normal ?_
          refine wq_seq ?_
          refine wq_block ?_
          refine wq_seq ?_
          refine wq_region ?_
          refine wl_v (.int .i64 (((2 : Nat) : Int))) rfl rfl (y_mov rfl s458 ⟨rfl, rfl⟩) ?_
          refine wl_v (.int .i64 (((2 : Nat) : Int))) rfl rfl (y_asg rfl rfl ⟨rfl, rfl⟩) ?_
          refine wl_nil fun F460 hF461 => ?_
          have s462 : F460 6 = .pointer (some ⟨p1, 0, none⟩) := (hF461 6).trans s454
          have s463 : F460 8 = .pointer (some ⟨p58, 0, none⟩) := (hF461 8).trans s455
          have s464 : F460 9 = v107 := (hF461 9).trans s456
          have s465 : F460 55 = undef := (hF461 55).trans s457
          have s466 : F460 30 = .int .i64 (((2 : Nat) : Int)) := (hF461 30).trans s458
          have s467 : F460 10 = .int .i64 (((2 : Nat) : Int)) := (hF461 10).trans rfl
          clear hF461
          refine then_normal ?_
          refine wq_seq ?_
          refine wq_region ?_
          refine wl_v (.agg #[.int .i64 ((newF (w) (h) 0).W), .int .i64 ((newF (w) (h) 0).H), v33, v34, v35]) rfl rfl (y_load_stc stcT_frame rfl s463 B364 ⟨rfl, rfl⟩) ?_
          refine wl_v (.int .i64 (((2 : Nat) : Int))) rfl rfl (y_mov rfl s467 ⟨rfl, rfl⟩) ?_
          refine wl_call (R := fun v_ w_ => v_ = .tuple #[.int .i64 ((sizeF (FD.mk ((newF (w) (h) 0).W) ((newF (w) (h) 0).H) (fillL (ph0 * pw0) s (ph0 * pw0)) (fillL (ph1 * pw1) s (ph1 * pw1)) ((newF (w) (h) 0).p2)) (((2 : Nat) : Int))).1), .int .i64 ((sizeF (FD.mk ((newF (w) (h) 0).W) ((newF (w) (h) 0).H) (fillL (ph0 * pw0) s (ph0 * pw0)) (fillL (ph1 * pw1) s (ph1 * pw1)) ((newF (w) (h) 0).p2)) (((2 : Nat) : Int))).2)] ∧ Kept (fun _ => False) w347 w_) rfl rfl (y_cs rfl rfl rfl (fun _ _ => by kernel_rfl) (ev_func _) (vsC rfl (vsC rfl vsN)) (pl_size (((2 : Nat) : Int)) (FD.mk ((newF (w) (h) 0).W) ((newF (w) (h) 0).H) (fillL (ph0 * pw0) s (ph0 * pw0)) (fillL (ph1 * pw1) s (ph1 * pw1)) ((newF (w) (h) 0).p2)) (v33) (v34) (v35) (T189) (T345) (T40) _  (B361).byt (B362).byt (B363).byt ) (fun e_ w_ h_ => ⟨_, h_.1, rfl, h_.2⟩)) ?_
          rintro _ w468 ⟨rfl, k469⟩
          have B470 := B360.all k469 id
          have B471 := B361.all k469 Apart.none
          have B472 := B362.all k469 Apart.none
          have B473 := B363.all k469 Apart.none
          have B474 := B364.all k469 id
          have B475 := B365.all k469 Apart.none
          have B476 := B366.all k469 Apart.none
          have K477 := K348.trans k469 (fun _ _ x => x.elim)
          refine wl_v (.tuple #[.int .i64 ((sizeF (FD.mk ((newF (w) (h) 0).W) ((newF (w) (h) 0).H) (fillL (ph0 * pw0) s (ph0 * pw0)) (fillL (ph1 * pw1) s (ph1 * pw1)) ((newF (w) (h) 0).p2)) (((2 : Nat) : Int))).1), .int .i64 ((sizeF (FD.mk ((newF (w) (h) 0).W) ((newF (w) (h) 0).H) (fillL (ph0 * pw0) s (ph0 * pw0)) (fillL (ph1 * pw1) s (ph1 * pw1)) ((newF (w) (h) 0).p2)) (((2 : Nat) : Int))).2)]) rfl rfl (y_mov rfl rfl ⟨rfl, rfl⟩) ?_
          refine wl_v (.int .i64 ((sizeF (FD.mk ((newF (w) (h) 0).W) ((newF (w) (h) 0).H) (fillL (ph0 * pw0) s (ph0 * pw0)) (fillL (ph1 * pw1) s (ph1 * pw1)) ((newF (w) (h) 0).p2)) (((2 : Nat) : Int))).1)) rfl rfl (y_ext rfl rfl rfl ⟨rfl, rfl⟩) ?_
          refine wl_v (.int .i64 ((sizeF (FD.mk ((newF (w) (h) 0).W) ((newF (w) (h) 0).H) (fillL (ph0 * pw0) s (ph0 * pw0)) (fillL (ph1 * pw1) s (ph1 * pw1)) ((newF (w) (h) 0).p2)) (((2 : Nat) : Int))).2)) rfl rfl (y_ext rfl rfl rfl ⟨rfl, rfl⟩) ?_
          refine wl_v (.int .i64 ((sizeF (FD.mk ((newF (w) (h) 0).W) ((newF (w) (h) 0).H) (fillL (ph0 * pw0) s (ph0 * pw0)) (fillL (ph1 * pw1) s (ph1 * pw1)) ((newF (w) (h) 0).p2)) (((2 : Nat) : Int))).1)) rfl rfl (y_asg rfl rfl ⟨rfl, rfl⟩) ?_
          refine wl_v (.int .i64 ((sizeF (FD.mk ((newF (w) (h) 0).W) ((newF (w) (h) 0).H) (fillL (ph0 * pw0) s (ph0 * pw0)) (fillL (ph1 * pw1) s (ph1 * pw1)) ((newF (w) (h) 0).p2)) (((2 : Nat) : Int))).2)) rfl rfl (y_asg rfl rfl ⟨rfl, rfl⟩) ?_
          refine wl_nil fun F478 hF479 => ?_
          have s480 : F478 6 = .pointer (some ⟨p1, 0, none⟩) := (hF479 6).trans s462
          have s481 : F478 8 = .pointer (some ⟨p58, 0, none⟩) := (hF479 8).trans s463
          have s482 : F478 9 = v107 := (hF479 9).trans s464
          have s483 : F478 55 = undef := (hF479 55).trans s465
          have s484 : F478 30 = .int .i64 (((2 : Nat) : Int)) := (hF479 30).trans s466
          have s485 : F478 10 = .int .i64 (((2 : Nat) : Int)) := (hF479 10).trans s467
          have s486 : F478 11 = .int .i64 ((sizeF (FD.mk ((newF (w) (h) 0).W) ((newF (w) (h) 0).H) (fillL (ph0 * pw0) s (ph0 * pw0)) (fillL (ph1 * pw1) s (ph1 * pw1)) ((newF (w) (h) 0).p2)) (((2 : Nat) : Int))).1) := (hF479 11).trans rfl
          have s487 : F478 12 = .int .i64 ((sizeF (FD.mk ((newF (w) (h) 0).W) ((newF (w) (h) 0).H) (fillL (ph0 * pw0) s (ph0 * pw0)) (fillL (ph1 * pw1) s (ph1 * pw1)) ((newF (w) (h) 0).p2)) (((2 : Nat) : Int))).2) := (hF479 12).trans rfl
          clear hF479
          refine then_normal ?_
          refine wq_seq ?_
          obtain ⟨pw2, hpw2⟩ : ∃ q, q = pn2 a (a / 2) 2 := ⟨_, rfl⟩
          obtain ⟨ph2, hph2⟩ : ∃ q, q = pn2 b (b / 2) 2 := ⟨_, rfl⟩
          have hA2 : (newF w h 0).p2 = List.replicate (ph2 * pw2) 0 := by rw [hpw2, hph2]; first | exact (new_planes 0 hsw hsh ha hb).1 | exact (new_planes 0 hsw hsh ha hb).2.1 | exact (new_planes 0 hsw hsh ha hb).2.2
          have hE2 : (newF w h s).p2 = List.replicate (ph2 * pw2) s := by rw [hpw2, hph2]; first | exact (new_planes s hsw hsh ha hb).1 | exact (new_planes s hsw hsh ha hb).2.1 | exact (new_planes s hsw hsh ha hb).2.2
          have hB2 : pw2 ≤ a ∧ pw2 ≤ 64 ∧ ph2 ≤ 64 := by have e1 := pn2_le a (a / 2) 2; have e2 := pn2_le b (b / 2) 2; omega
          have s488 : F478 11 = .int .i64 (((pw2 : Nat) : Int)) := s486.trans (congrArg (Value.int .i64) (by rw [hpw2]; (refine size_fst hsw hsh ?_ ?_ ?_ ?_ ?_ 2 (by decide) ha hb <;> first | exact (new_side 0 hsw hsh).1 | exact (new_side 0 hsw hsh).2 | exact hl0 | exact hl1 | rfl)))
          have s489 : F478 12 = .int .i64 (((ph2 : Nat) : Int)) := s487.trans (congrArg (Value.int .i64) (by rw [hph2]; (refine size_snd hsw hsh ?_ ?_ ?_ ?_ ?_ 2 (by decide) ha hb <;> first | exact (new_side 0 hsw hsh).1 | exact (new_side 0 hsw hsh).2 | exact hl0 | exact hl1 | rfl)))
          refine wq_region ?_
          refine wl_v (.int .i64 (((ph2 : Nat) : Int))) rfl rfl (y_mov rfl s489 ⟨rfl, rfl⟩) ?_
          refine wl_v (.int .i64 (0)) rfl rfl (y_mov rfl rfl ⟨rfl, rfl⟩) ?_
          refine wl_nil fun F490 hF491 => ?_
          have s492 : F490 6 = .pointer (some ⟨p1, 0, none⟩) := (hF491 6).trans s480
          have s493 : F490 8 = .pointer (some ⟨p58, 0, none⟩) := (hF491 8).trans s481
          have s494 : F490 9 = v107 := (hF491 9).trans s482
          have s495 : F490 55 = undef := (hF491 55).trans s483
          have s496 : F490 30 = .int .i64 (((2 : Nat) : Int)) := (hF491 30).trans s484
          have s497 : F490 10 = .int .i64 (((2 : Nat) : Int)) := (hF491 10).trans s485
          have s498 : F490 11 = .int .i64 (((pw2 : Nat) : Int)) := (hF491 11).trans s488
          have s499 : F490 39 = .int .i64 (((ph2 : Nat) : Int)) := (hF491 39).trans rfl
          have s500 : F490 40 = .int .i64 (0) := (hF491 40).trans rfl
          clear hF491
          refine then_normal ?_
          refine wq_block ?_
          refine wq_loop (fun nn FF ww => ∃ (y : Nat), ∃ (T501 : Nat → Prop), (y ≤ ph2) ∧ nn = ph2 - y ∧ FF 6 = .pointer (some ⟨p1, 0, none⟩) ∧ FF 8 = .pointer (some ⟨p58, 0, none⟩) ∧ FF 9 = v107 ∧ FF 10 = .int .i64 (((2 : Nat) : Int)) ∧ FF 11 = .int .i64 (((pw2 : Nat) : Int)) ∧ FF 30 = .int .i64 (((2 : Nat) : Int)) ∧ FF 39 = .int .i64 (((ph2 : Nat) : Int)) ∧ FF 55 = undef ∧ FF 40 = .int .i64 (((y : Nat) : Int)) ∧ Kept (fun _ => False) w0 ww ∧ Stc ww p1 25 [.int .i64 (0), .int .i64 (0), .slice none 0 0, .slice none 0 0, .slice none 0 0] ∧ Owb ww (T189) v33 (fillL (ph0 * pw0) s (ph0 * pw0)) ∧ Owb ww (T345) v34 (fillL (ph1 * pw1) s (ph1 * pw1)) ∧ Owb ww (T501) v35 (fillL (ph2 * pw2) s (y * pw2)) ∧ Stc ww p58 25 [.int .i64 ((newF (w) (h) 0).W), .int .i64 ((newF (w) (h) 0).H), v33, v34, v35] ∧ Owb ww (T94) v89 ([s]) ∧ Byt ww (T110) v107 (List.replicate (a) (s)) ∧ Grew w0 (noB) T501 ∧ Apart (T501) (onB p1) ∧ Apart (T501) (T189) ∧ Apart (T501) (T345) ∧ Apart (T501) (onB p58) ∧ Apart (T501) (T94) ∧ Apart (T501) (T110)) (ph2 - (0)) ⟨0, T40, by omega, rfl, s492, s493, s494, s497, s498, s496, s499, s495, s500, K477, B470, B471, B472, Owb.of_eq (fill_start hA2) B473, B474, B475, B476, gr56, ap57, (ap214).symm, (ap370).symm, (ap67).symm, (ap99).symm, (ap124).symm⟩ ?_
          rintro n505 F502 w503 ⟨y, T501, i506, hn505, s507, s508, s509, s510, s511, s512, s513, s514, s515, K504, B516, B517, B518, B519, B520, B521, B522, gr523, ap524, ap525, ap526, ap527, ap528, ap529⟩
          refine wq_seq ?_
          refine wq_region ?_
          refine wl_v (.bool (decide ((((y : Nat) : Int)) < (((ph2 : Nat) : Int))))) rfl rfl (y_lss rfl s515 s513 rfl ⟨rfl, rfl⟩) ?_
          refine wl_nil fun F530 hF531 => ?_
          have s532 : F530 6 = .pointer (some ⟨p1, 0, none⟩) := (hF531 6).trans s507
          have s533 : F530 8 = .pointer (some ⟨p58, 0, none⟩) := (hF531 8).trans s508
          have s534 : F530 9 = v107 := (hF531 9).trans s509
          have s535 : F530 10 = .int .i64 (((2 : Nat) : Int)) := (hF531 10).trans s510
          have s536 : F530 11 = .int .i64 (((pw2 : Nat) : Int)) := (hF531 11).trans s511
          have s537 : F530 30 = .int .i64 (((2 : Nat) : Int)) := (hF531 30).trans s512
          have s538 : F530 39 = .int .i64 (((ph2 : Nat) : Int)) := (hF531 39).trans s513
          have s539 : F530 55 = undef := (hF531 55).trans s514
          have s540 : F530 40 = .int .i64 (((y : Nat) : Int)) := (hF531 40).trans s515
          have s541 : F530 41 = .bool (decide ((((y : Nat) : Int)) < (((ph2 : Nat) : Int)))) := (hF531 41).trans rfl
          clear hF531
          refine then_normal ?_
          refine wq_seq ?_
          refine wq_cond s541 (fun c542 => ?_) (fun c542 => ?_)
          · replace c542 := of_decide_eq_true c542
            refine wq_skip ?_
            refine then_normal ?_
            refine wq_seq ?_
            refine wq_block ?_
            refine wq_seq ?_
            refine wq_region ?_
            refine wl_v (.int .i64 (((y : Nat) : Int))) rfl rfl (y_mov rfl s540 ⟨rfl, rfl⟩) ?_
            refine wl_v (.int .i64 (((y : Nat) : Int))) rfl rfl (y_asg rfl rfl ⟨rfl, rfl⟩) ?_
            refine wl_nil fun F543 hF544 => ?_
            have s545 : F543 6 = .pointer (some ⟨p1, 0, none⟩) := (hF544 6).trans s532
            have s546 : F543 8 = .pointer (some ⟨p58, 0, none⟩) := (hF544 8).trans s533
            have s547 : F543 9 = v107 := (hF544 9).trans s534
            have s548 : F543 10 = .int .i64 (((2 : Nat) : Int)) := (hF544 10).trans s535
            have s549 : F543 11 = .int .i64 (((pw2 : Nat) : Int)) := (hF544 11).trans s536
            have s550 : F543 30 = .int .i64 (((2 : Nat) : Int)) := (hF544 30).trans s537
            have s551 : F543 39 = .int .i64 (((ph2 : Nat) : Int)) := (hF544 39).trans s538
            have s552 : F543 55 = undef := (hF544 55).trans s539
            have s553 : F543 40 = .int .i64 (((y : Nat) : Int)) := (hF544 40).trans s540
            have s554 : F543 13 = .int .i64 (((y : Nat) : Int)) := (hF544 13).trans rfl
            clear hF544
            refine then_normal ?_
            have hz := row_fact (y := y) (pw := pw2) (ph := ph2) (by omega) hB2.2.1 hB2.2.2
            have hfl : (fillL (ph2 * pw2) s (y * pw2)).length = ph2 * pw2 := fill_length (by omega)
            refine wq_region ?_
            refine wl_v (.int .i64 (((2 : Nat) : Int))) rfl rfl (y_mov rfl s548 ⟨rfl, rfl⟩) ?_
            refine wl_v (.pointer (some ⟨p58, 2, none⟩)) rfl rfl (y_fieldR (n := 3) rfl s546 Try.underlying25 rfl (by kernel_rfl) (by decide) rfl ⟨rfl, rfl⟩) ?_
            refine wl_v (.pointer (some ⟨p58, 4, none⟩)) rfl rfl (y_atR (2) (s := 1) rfl rfl rfl (by omega) Try.underlying23 (by omega) (by kernel_rfl) (by omega) ⟨rfl, rfl⟩) ?_
            refine wl_v (v35) rfl rfl (y_ld_stc rfl rfl Try.underlying22 B520 rfl rfl ⟨rfl, rfl⟩) ?_
            refine wl_v (.int .i64 (((pw2 : Nat) : Int))) rfl rfl (y_mov rfl s549 ⟨rfl, rfl⟩) ?_
            refine wl_v (.int .i64 (((y : Nat) : Int))) rfl rfl (y_mov rfl s554 ⟨rfl, rfl⟩) ?_
            refine wl_call (R := fun v_ w_ => v_ = subV (v35) (((((y : Nat) : Int)) * (((pw2 : Nat) : Int))).toNat) (((((y : Nat) : Int)) * (((pw2 : Nat) : Int)) + (((pw2 : Nat) : Int))).toNat) (((((y : Nat) : Int)) * (((pw2 : Nat) : Int)) + (((pw2 : Nat) : Int))).toNat) ∧ Kept (fun _ => False) w503 w_) rfl rfl (y_cs rfl rfl rfl (fun _ _ => by kernel_rfl) (ev_func _) (vsC rfl (vsC rfl (vsC rfl vsN))) (ps_row (v35) (fillL (ph2 * pw2) s (y * pw2)) (((pw2 : Nat) : Int)) (((y : Nat) : Int)) (T501) _ (by omega) (by omega) (by rw [hfl]; exact hz.2.2.2) (by omega) (B519).byt ) (fun e_ w_ h_ => ⟨_, h_.1, rfl, h_.2⟩)) ?_
            rintro _ w555 ⟨rfl, k556⟩
            have B557 := B516.all k556 id
            have B558 := B517.all k556 Apart.none
            have B559 := B518.all k556 Apart.none
            have B560 := B519.all k556 Apart.none
            have B561 := B520.all k556 id
            have B562 := B521.all k556 Apart.none
            have B563 := B522.all k556 Apart.none
            have K564 := K504.trans k556 (fun _ _ x => x.elim)
            refine wl_v (v107) rfl rfl (y_mov rfl s547 ⟨rfl, rfl⟩) ?_
            refine wl_copyM rfl rfl rfl rfl rfl (part_sub (B560).byt (by omega)) rfl B560 B563 (by rw [hfl]; omega) fun w566 B568 k567 => ?_
            have B571 := B557.all k567 (fun x => (((ap524).symm) p1 rfl x))
            have B572 := B558.all k567 (fun i h x => (((ap525).symm) i h x))
            have B573 := B559.all k567 (fun i h x => (((ap526).symm) i h x))
            have B574 := B561.all k567 (fun x => (((ap527).symm) p58 rfl x))
            have B575 := B562.all k567 (fun i h x => (((ap528).symm) i h x))
            have B576 := B563.all k567 (fun i h x => (((ap529).symm) i h x))
            have K577 := K564.trans k567 (Grew.ok (S := fun _ => False) gr523 noB_le)
            refine wl_nil fun F578 hF579 => ?_
            have s580 : F578 6 = .pointer (some ⟨p1, 0, none⟩) := (hF579 6).trans s545
            have s581 : F578 8 = .pointer (some ⟨p58, 0, none⟩) := (hF579 8).trans s546
            have s582 : F578 9 = v107 := (hF579 9).trans s547
            have s583 : F578 10 = .int .i64 (((2 : Nat) : Int)) := (hF579 10).trans s548
            have s584 : F578 11 = .int .i64 (((pw2 : Nat) : Int)) := (hF579 11).trans s549
            have s585 : F578 30 = .int .i64 (((2 : Nat) : Int)) := (hF579 30).trans s550
            have s586 : F578 39 = .int .i64 (((ph2 : Nat) : Int)) := (hF579 39).trans s551
            have s587 : F578 55 = undef := (hF579 55).trans s552
            have s588 : F578 40 = .int .i64 (((y : Nat) : Int)) := (hF579 40).trans s553
            clear hF579
            refine in_normal ?_
            refine then_normal ?_
            refine wq_region ?_
            refine wl_v (.int .i64 (((y + 1 : Nat) : Int))) rfl rfl (y_add rfl s588 rfl (i64_n (by omega) (by omega)) ⟨rfl, rfl⟩) ?_
            refine wl_v (.int .i64 (((y + 1 : Nat) : Int))) rfl rfl (y_mov rfl rfl ⟨rfl, rfl⟩) ?_
            refine wl_nil fun F589 hF590 => ?_
            have s591 : F589 6 = .pointer (some ⟨p1, 0, none⟩) := (hF590 6).trans s580
            have s592 : F589 8 = .pointer (some ⟨p58, 0, none⟩) := (hF590 8).trans s581
            have s593 : F589 9 = v107 := (hF590 9).trans s582
            have s594 : F589 10 = .int .i64 (((2 : Nat) : Int)) := (hF590 10).trans s583
            have s595 : F589 11 = .int .i64 (((pw2 : Nat) : Int)) := (hF590 11).trans s584
            have s596 : F589 30 = .int .i64 (((2 : Nat) : Int)) := (hF590 30).trans s585
            have s597 : F589 39 = .int .i64 (((ph2 : Nat) : Int)) := (hF590 39).trans s586
            have s598 : F589 55 = undef := (hF590 55).trans s587
            have s599 : F589 40 = .int .i64 (((y + 1 : Nat) : Int)) := (hF590 40).trans rfl
            clear hF590
            exact then_normal ⟨(ph2 - (y + 1)), by omega, y + 1, T501, by omega, rfl, s591, s592, s593, s594, s595, s596, s597, s598, s599, K577, B571, B572, B573, Owb.of_eq (fill_next hB2.1) B568, B574, B575, B576, gr523, ap524, ap525, ap526, ap527, ap528, ap529⟩
          · replace c542 := of_decide_eq_false c542
            refine wq_exit ?_
            refine then_exit ?_
            refine then_exit ?_
            have l600 : ph2 = y := by omega
            subst l600
            have hl2 : (fillL (ph2 * pw2) s (ph2 * pw2)).length = (newF w h 0).p2.length := by rw [fill_length (Nat.le_refl _), hA2, List.length_replicate]
            refine in_here ?_
            refine in_normal ?_
            refine then_normal ?_
            refine wq_region ?_
            refine wl_v (.int .i64 (((3 : Nat) : Int))) rfl rfl (y_add rfl s537 rfl (i64_n (by omega) (by omega)) ⟨rfl, rfl⟩) ?_
            refine wl_v (.int .i64 (((3 : Nat) : Int))) rfl rfl (y_mov rfl rfl ⟨rfl, rfl⟩) ?_
            refine wl_nil fun F601 hF602 => ?_
            have s603 : F601 6 = .pointer (some ⟨p1, 0, none⟩) := (hF602 6).trans s532
            have s604 : F601 8 = .pointer (some ⟨p58, 0, none⟩) := (hF602 8).trans s533
            have s605 : F601 9 = v107 := (hF602 9).trans s534
            have s606 : F601 55 = undef := (hF602 55).trans s539
            have s607 : F601 30 = .int .i64 (((3 : Nat) : Int)) := (hF602 30).trans rfl
            clear hF602
            refine then_normal ?_
            refine wqr_step ?_
            refine wq_seq ?_
            refine wq_region ?_
            refine wl_v (.bool false) rfl rfl (y_lss rfl s607 rfl rfl ⟨rfl, rfl⟩) ?_
            refine wl_nil fun F608 hF609 => ?_
            have s610 : F608 6 = .pointer (some ⟨p1, 0, none⟩) := (hF609 6).trans s603
            have s611 : F608 8 = .pointer (some ⟨p58, 0, none⟩) := (hF609 8).trans s604
            have s612 : F608 9 = v107 := (hF609 9).trans s605
            have s613 : F608 55 = undef := (hF609 55).trans s606
            have s614 : F608 30 = .int .i64 (((3 : Nat) : Int)) := (hF609 30).trans s607
            have s615 : F608 31 = .bool false := (hF609 31).trans rfl
            clear hF609
            refine then_normal ?_
            refine wq_seq ?_
            refine wq_cond (t := false) s615 (fun e => by cases e) (fun _ => ?_)
            refine wq_exit ?_
            refine then_exit ?_
            refine then_exit ?_
            refine in_here ?_
            refine then_normal ?_
            refine wq_seq ?_
            refine wq_region ?_
            refine wl_v (.agg #[.int .i64 ((newF (w) (h) 0).W), .int .i64 ((newF (w) (h) 0).H), v33, v34, v35]) rfl rfl (y_load_stc stcT_frame rfl s611 B520 ⟨rfl, rfl⟩) ?_
            refine wl_store_stc (us := [.int .i64 ((newF (w) (h) 0).W), .int .i64 ((newF (w) (h) 0).H), v33, v34, v35]) stcT_frame rfl rfl rfl s610 rfl B516 rfl (oneI rfl (oneI rfl (oneI (B517).one (oneI (B518).one (oneI (B519).one oneN))))) fun w616 B617 k618 => ?_
            have B619 := B517.all k618 (fun i h x => ((ap212) i h x))
            have B620 := B518.all k618 (fun i h x => ((ap368) i h x))
            have B621 := B519.all k618 (fun i h x => ((ap524) i h x))
            have B622 := B520.all k618 (fun x => ((ap64) p58 rfl x))
            have B623 := B521.all k618 (fun i h x => ((ap96) i h x))
            have B624 := B522.all k618 (fun i h x => ((ap121) i h x))
            have K625 := K504.trans k618 (Grew.ok (S := fun _ => False) gr6 noB_le)
            refine wl_v (.int .i64 (0)) rfl rfl (y_asg rfl rfl ⟨rfl, rfl⟩) ?_
            refine wl_nil fun F626 hF627 => ?_
            have s628 : F626 6 = .pointer (some ⟨p1, 0, none⟩) := (hF627 6).trans s610
            have s629 : F626 55 = undef := (hF627 55).trans s613
            have s630 : F626 7 = .int .i64 (0) := (hF627 7).trans rfl
            clear hF627
            refine then_normal ?_
            refine wq_ret ?_
            exact end_2 s629 rfl (res_stc (vs := [.int .i64 ((newF (w) (h) 0).W), .int .i64 ((newF (w) (h) 0).H), v33, v34, v35]) stcT_frame rfl s628 B617) (res_tmp (v := .int .i64 (0)) rfl s630) ⟨v33, T189, v34, T345, v35, T501, (by first | rw [(new_side s hsw hsh).1, (new_side s hsw hsh).2, (new_side 0 hsw hsh).1, (new_side 0 hsw hsh).2, newE_yes hsw hsh] | (rw [hN, newE_no hno]; rfl)), K625, ⟨(by first | exact Owb.of_eq (fill_done hE0) B619 | (rw [hN]; exact B619)), gr211⟩, ⟨(by first | exact Owb.of_eq (fill_done hE1) B620 | (rw [hN]; exact B620)), gr367⟩, ⟨(by first | exact Owb.of_eq (fill_done hE2) B621 | (rw [hN]; exact B621)), gr523⟩, (ap369).symm, (ap525).symm, (ap526).symm⟩
    · skip
      refine wq_region ?_
      refine wl_v (.int .i64 (w)) rfl rfl (y_mov rfl s10 ⟨rfl, rfl⟩) ?_
      refine wl_call (R := fun v_ w_ => v_ = .bool true ∧ Kept (fun _ => False) w2 w_) rfl rfl (y_cs rfl rfl rfl (fun _ _ => by kernel_rfl) (ev_func _) (vsC rfl vsN) (ps_side (w)  _   ) (fun e_ w_ h_ => ⟨_, h_.1, (congrArg Value.bool d15), h_.2⟩)) ?_
      rintro _ w631 ⟨rfl, k632⟩
      have B633 := B4.all k632 id
      have K634 := K7.trans k632 (fun _ _ x => x.elim)
      refine wl_v (.bool false) rfl rfl (y_not rfl rfl rfl ⟨rfl, rfl⟩) ?_
      refine wl_v (.bool false) rfl rfl (y_mov rfl rfl ⟨rfl, rfl⟩) ?_
      refine wl_vw (.int .i64 (h)) 3 false 17 rfl rfl rfl rfl rfl (y_mov rfl s11 ⟨rfl, rfl⟩) ?_
      refine wl_callw (R := fun v_ w_ => v_ = .bool false ∧ Kept (fun _ => False) w631 w_) 3 false 17 rfl rfl rfl rfl rfl (y_cs rfl rfl rfl (fun _ _ => by kernel_rfl) (ev_func _) (vsC rfl vsN) (ps_side (h)  _   ) (fun e_ w_ h_ => ⟨_, h_.1, (congrArg Value.bool d16), h_.2⟩)) ?_
      rintro _ w635 ⟨rfl, k636⟩
      have B637 := B633.all k636 id
      have K638 := K634.trans k636 (fun _ _ x => x.elim)
      refine wl_vw (.bool true) 3 false 17 rfl rfl rfl rfl rfl (y_not rfl rfl rfl ⟨rfl, rfl⟩) ?_
      refine wl_v (.bool true) rfl rfl (y_pickF rfl rfl rfl ⟨rfl, rfl⟩) ?_
      refine wl_nil fun F639 hF640 => ?_
      have s641 : F639 0 = .int .i64 (w) := (hF640 0).trans s10
      have s642 : F639 1 = .int .i64 (h) := (hF640 1).trans s11
      have s643 : F639 2 = .int .u8 (((s : Nat) : Int)) := (hF640 2).trans s12
      have s644 : F639 55 = undef := (hF640 55).trans s13
      have s645 : F639 6 = .pointer (some ⟨p1, 0, none⟩) := (hF640 6).trans s14
      have s646 : F639 21 = .bool true := (hF640 21).trans rfl
      clear hF640
      refine then_normal ?_
      refine wq_cond (t := true) s646 (fun _ => ?_) (fun e => by cases e)
      refine wq_seq ?_
      have hno : ¬ (sideB w = true ∧ sideB h = true) := by rintro ⟨h1, h2⟩; simp_all
      have hN := newF_no s hno
      refine wq_region ?_
      refine wl_v (.agg #[.int .i64 (0), .int .i64 (0), .slice none 0 0, .slice none 0 0, .slice none 0 0]) rfl rfl (y_buildL (l' := []) (cells := #[.int .i64 (0), .int .i64 (0), .slice none 0 0, .slice none 0 0, .slice none 0 0]) rfl bpN (by kernel_rfl) rfl ⟨rfl, rfl⟩) ?_
      refine wl_store_stc (us := [.int .i64 (0), .int .i64 (0), .slice none 0 0, .slice none 0 0, .slice none 0 0]) stcT_frame rfl rfl rfl s645 rfl B637 rfl (oneI rfl (oneI rfl (oneI rfl (oneI rfl (oneI rfl oneN))))) fun w647 B648 k649 => ?_
      have K650 := K638.trans k649 (Grew.ok (S := fun _ => False) gr6 noB_le)
      refine wl_v (.int .i64 (70)) rfl rfl (y_asg rfl rfl ⟨rfl, rfl⟩) ?_
      refine wl_nil fun F651 hF652 => ?_
      have s653 : F651 55 = undef := (hF652 55).trans s644
      have s654 : F651 6 = .pointer (some ⟨p1, 0, none⟩) := (hF652 6).trans s645
      have s655 : F651 7 = .int .i64 (70) := (hF652 7).trans rfl
      clear hF652
      refine then_normal ?_
      refine wq_ret ?_
      refine then_ret ?_
      exact end_2 s653 rfl (res_stc (vs := [.int .i64 (0), .int .i64 (0), .slice none 0 0, .slice none 0 0, .slice none 0 0]) stcT_frame rfl s654 B648) (res_tmp (v := .int .i64 (70)) rfl s655) ⟨(.slice none 0 0), noB, (.slice none 0 0), noB, (.slice none 0 0), noB, (by first | rw [(new_side s hsw hsh).1, (new_side s hsw hsh).2, (new_side 0 hsw hsh).1, (new_side 0 hsw hsh).2, newE_yes hsw hsh] | (rw [hN, newE_no hno]; rfl)), K650, ⟨(by first | exact Owb.of_eq (fill_done hE0) (Owb.nil _) | (rw [hN]; exact (Owb.nil _))), (Grew.refl _ _)⟩, ⟨(by first | exact Owb.of_eq (fill_done hE1) (Owb.nil _) | (rw [hN]; exact (Owb.nil _))), (Grew.refl _ _)⟩, ⟨(by first | exact Owb.of_eq (fill_done hE2) (Owb.nil _) | (rw [hN]; exact (Owb.nil _))), (Grew.refl _ _)⟩, Apart.none, Apart.none, Apart.none⟩
  · skip
    refine wq_region ?_
    refine wl_v (.int .i64 (w)) rfl rfl (y_mov rfl s10 ⟨rfl, rfl⟩) ?_
    refine wl_call (R := fun v_ w_ => v_ = .bool false ∧ Kept (fun _ => False) w2 w_) rfl rfl (y_cs rfl rfl rfl (fun _ _ => by kernel_rfl) (ev_func _) (vsC rfl vsN) (ps_side (w)  _   ) (fun e_ w_ h_ => ⟨_, h_.1, (congrArg Value.bool d15), h_.2⟩)) ?_
    rintro _ w656 ⟨rfl, k657⟩
    have B658 := B4.all k657 id
    have K659 := K7.trans k657 (fun _ _ x => x.elim)
    refine wl_v (.bool true) rfl rfl (y_not rfl rfl rfl ⟨rfl, rfl⟩) ?_
    refine wl_v (.bool true) rfl rfl (y_mov rfl rfl ⟨rfl, rfl⟩) ?_
    refine wl_unless 3 false 17 rfl rfl rfl (Or.inl rfl) rfl ?_
    refine wl_unless 3 false 17 rfl rfl rfl (Or.inl rfl) rfl ?_
    refine wl_unless 3 false 17 rfl rfl rfl (Or.inl rfl) rfl ?_
    refine wl_v (.bool true) rfl rfl (y_pickT rfl rfl rfl ⟨rfl, rfl⟩) ?_
    refine wl_nil fun F660 hF661 => ?_
    have s662 : F660 0 = .int .i64 (w) := (hF661 0).trans s10
    have s663 : F660 1 = .int .i64 (h) := (hF661 1).trans s11
    have s664 : F660 2 = .int .u8 (((s : Nat) : Int)) := (hF661 2).trans s12
    have s665 : F660 55 = undef := (hF661 55).trans s13
    have s666 : F660 6 = .pointer (some ⟨p1, 0, none⟩) := (hF661 6).trans s14
    have s667 : F660 21 = .bool true := (hF661 21).trans rfl
    clear hF661
    refine then_normal ?_
    refine wq_cond (t := true) s667 (fun _ => ?_) (fun e => by cases e)
    refine wq_seq ?_
    have hno : ¬ (sideB w = true ∧ sideB h = true) := by rintro ⟨h1, h2⟩; simp_all
    have hN := newF_no s hno
    refine wq_region ?_
    refine wl_v (.agg #[.int .i64 (0), .int .i64 (0), .slice none 0 0, .slice none 0 0, .slice none 0 0]) rfl rfl (y_buildL (l' := []) (cells := #[.int .i64 (0), .int .i64 (0), .slice none 0 0, .slice none 0 0, .slice none 0 0]) rfl bpN (by kernel_rfl) rfl ⟨rfl, rfl⟩) ?_
    refine wl_store_stc (us := [.int .i64 (0), .int .i64 (0), .slice none 0 0, .slice none 0 0, .slice none 0 0]) stcT_frame rfl rfl rfl s666 rfl B658 rfl (oneI rfl (oneI rfl (oneI rfl (oneI rfl (oneI rfl oneN))))) fun w668 B669 k670 => ?_
    have K671 := K659.trans k670 (Grew.ok (S := fun _ => False) gr6 noB_le)
    refine wl_v (.int .i64 (70)) rfl rfl (y_asg rfl rfl ⟨rfl, rfl⟩) ?_
    refine wl_nil fun F672 hF673 => ?_
    have s674 : F672 55 = undef := (hF673 55).trans s665
    have s675 : F672 6 = .pointer (some ⟨p1, 0, none⟩) := (hF673 6).trans s666
    have s676 : F672 7 = .int .i64 (70) := (hF673 7).trans rfl
    clear hF673
    refine then_normal ?_
    refine wq_ret ?_
    refine then_ret ?_
    exact end_2 s674 rfl (res_stc (vs := [.int .i64 (0), .int .i64 (0), .slice none 0 0, .slice none 0 0, .slice none 0 0]) stcT_frame rfl s675 B669) (res_tmp (v := .int .i64 (70)) rfl s676) ⟨(.slice none 0 0), noB, (.slice none 0 0), noB, (.slice none 0 0), noB, (by first | rw [(new_side s hsw hsh).1, (new_side s hsw hsh).2, (new_side 0 hsw hsh).1, (new_side 0 hsw hsh).2, newE_yes hsw hsh] | (rw [hN, newE_no hno]; rfl)), K671, ⟨(by first | exact Owb.of_eq (fill_done hE0) (Owb.nil _) | (rw [hN]; exact (Owb.nil _))), (Grew.refl _ _)⟩, ⟨(by first | exact Owb.of_eq (fill_done hE1) (Owb.nil _) | (rw [hN]; exact (Owb.nil _))), (Grew.refl _ _)⟩, ⟨(by first | exact Owb.of_eq (fill_done hE2) (Owb.nil _) | (rw [hN]; exact (Owb.nil _))), (Grew.refl _ _)⟩, Apart.none, Apart.none, Apart.none⟩
end Go.Proofs.Ytdggilbgjijfmaa
namespace Go.Proofs.Ytdggilbgjijfmaa
open Go.RowKit

set_option maxHeartbeats 4000000 in
set_option maxRecDepth 100000 in
theorem iawake (w0 : World) :
    Calls Try.prog 9 #[] w0 fun e w' => e = .returned (.bool true) ∧ Kept (fun _ => False) w0 w' := by
  refine calls_wq (args := []) 99 Try.func9 rfl rfl (Nat.le_of_ble_eq_true rfl) ?_
  have K0 := Kept.refl (fun _ => False) w0
  have hf := Lib.hid awake8
  refine wq_seq ?_
  refine wq_region ?_
  refine wl_v (.bool false) rfl rfl (y_asg rfl rfl ⟨rfl, rfl⟩) ?_
  refine wl_nil fun F1 hF2 => ?_
  have s3 : F1 99 = undef := (hF2 99).trans rfl
  clear hF2
  refine then_normal ?_
  refine wq_seq ?_
  refine wq_region ?_
  refine wl_call (R := fun v_ w_ => ∃ (v4 : Value) (T9 : Nat → Prop) (v5 : Value) (T10 : Nat → Prop) (v6 : Value) (T11 : Nat → Prop), .tuple #[.agg #[.int .i64 ((newF (8) (8) (7)).W), .int .i64 ((newF (8) (8) (7)).H), v4, v5, v6], .int .i64 (newE (8) (8))] = v_ ∧ Kept (fun _ => False) w0 w_ ∧ (Owb w_ T9 v4 ((newF (8) (8) (7)).p0) ∧ Grew w0 noB T9) ∧ (Owb w_ T10 v5 ((newF (8) (8) (7)).p1) ∧ Grew w0 noB T10) ∧ (Owb w_ T11 v6 ((newF (8) (8) (7)).p2) ∧ Grew w0 noB T11) ∧ Apart T9 T10 ∧ Apart T9 T11 ∧ Apart T10 T11) rfl rfl (y_cs rfl rfl rfl (fun _ _ => by kernel_rfl) (ev_func _) (vsC rfl (vsC rfl (vsC rfl vsN))) (pl_new (8) (8) (7)  _ (by omega)  ) (fun e_ w_ h_ => by obtain ⟨v4_, T9_, v5_, T10_, v6_, T11_, he_, hr_⟩ := h_; exact ⟨_, he_, v4_, T9_, v5_, T10_, v6_, T11_, rfl, hr_⟩)) ?_
  rintro _ w7 ⟨v4, T9, v5, T10, v6, T11, rfl, k8, ⟨B12, g15⟩, ⟨B13, g16⟩, ⟨B14, g17⟩, ap18, ap19, ap20⟩
  have K21 := K0.trans k8 (fun _ _ x => x.elim)
  have gr22 : Grew w0 noB (T9) := Grew.new K0 g15
  have gr23 : Grew w0 noB (T10) := Grew.new K0 g16
  have gr24 : Grew w0 noB (T11) := Grew.new K0 g17
  refine wl_v (.tuple #[.agg #[.int .i64 ((newF (8) (8) (7)).W), .int .i64 ((newF (8) (8) (7)).H), v4, v5, v6], .int .i64 (newE (8) (8))]) rfl rfl (y_mov rfl rfl ⟨rfl, rfl⟩) ?_
  refine wl_v (.agg #[.int .i64 ((newF (8) (8) (7)).W), .int .i64 ((newF (8) (8) (7)).H), v4, v5, v6]) rfl rfl (y_ext rfl rfl rfl ⟨rfl, rfl⟩) ?_
  refine wl_v (.int .i64 (newE (8) (8))) rfl rfl (y_ext rfl rfl rfl ⟨rfl, rfl⟩) ?_
  refine wl_alloc_stc (n := 5) (vs := [.int .i64 (0), .int .i64 (0), .slice none 0 0, .slice none 0 0, .slice none 0 0]) rfl rfl rfl (by kernel_rfl) fun p25 w26 B28 g29 k27 => ?_
  have gr30 : Grew w0 noB (onB p25) := Grew.new K21 g29
  have ap31 : Apart (onB p25) (T9) := Apart.new g29 (B12).live
  have ap32 : Apart (onB p25) (T10) := Apart.new g29 (B13).live
  have ap33 : Apart (onB p25) (T11) := Apart.new g29 (B14).live
  have B34 := B12.all k27 Apart.none
  have B35 := B13.all k27 Apart.none
  have B36 := B14.all k27 Apart.none
  have K37 := K21.trans k27 (fun _ _ x => x.elim)
  refine wl_store_stc (us := [.int .i64 ((newF (8) (8) (7)).W), .int .i64 ((newF (8) (8) (7)).H), v4, v5, v6]) stcT_frame rfl rfl rfl rfl rfl B28 rfl (oneI rfl (oneI rfl (oneI (B34).one (oneI (B35).one (oneI (B36).one oneN))))) fun w38 B39 k40 => ?_
  have B41 := B34.all k40 (fun i h x => (((ap31).symm) i h x))
  have B42 := B35.all k40 (fun i h x => (((ap32).symm) i h x))
  have B43 := B36.all k40 (fun i h x => (((ap33).symm) i h x))
  have K44 := K37.trans k40 (Grew.ok (S := fun _ => False) gr30 noB_le)
  refine wl_v (.int .i64 (newE (8) (8))) rfl rfl (y_asg rfl rfl ⟨rfl, rfl⟩) ?_
  refine wl_nil fun F45 hF46 => ?_
  have s47 : F45 99 = undef := (hF46 99).trans s3
  have s48 : F45 1 = .pointer (some ⟨p25, 0, none⟩) := (hF46 1).trans rfl
  clear hF46
  refine then_normal ?_
  refine wq_seq ?_
  refine wq_region ?_
  refine wl_v (.agg #[.int .i64 ((newF (8) (8) (7)).W), .int .i64 ((newF (8) (8) (7)).H), v4, v5, v6]) rfl rfl (y_load_stc stcT_frame rfl s48 B39 ⟨rfl, rfl⟩) ?_
  refine wl_call (R := fun v_ w_ => v_ = .tuple #[blkV (predB (newF (8) (8) (7)) (0) (4) (4) (0)), .int .i64 (predE (newF (8) (8) (7)) (0) (4) (4) (0))] ∧ Kept (fun _ => False) w38 w_) rfl rfl (y_cs rfl rfl rfl (fun _ _ => by kernel_rfl) (ev_func _) (vsC rfl (vsC rfl (vsC rfl (vsC rfl (vsC rfl vsN))))) (il_predict (0) (4) (4) (0) (newF (8) (8) (7)) (v4) (v5) (v6) (T9) (T10) (T11) _  (B41).byt (B42).byt (B43).byt ) (fun e_ w_ h_ => ⟨_, h_.1, rfl, h_.2⟩)) ?_
  rintro _ w49 ⟨rfl, k50⟩
  have B51 := B41.all k50 Apart.none
  have B52 := B42.all k50 Apart.none
  have B53 := B43.all k50 Apart.none
  have B54 := B39.all k50 id
  have K55 := K44.trans k50 (fun _ _ x => x.elim)
  refine wl_v (.tuple #[blkV (predB (newF (8) (8) (7)) (0) (4) (4) (0)), .int .i64 (predE (newF (8) (8) (7)) (0) (4) (4) (0))]) rfl rfl (y_mov rfl rfl ⟨rfl, rfl⟩) ?_
  refine wl_v (blkV (predB (newF (8) (8) (7)) (0) (4) (4) (0))) rfl rfl (y_ext rfl rfl rfl ⟨rfl, rfl⟩) ?_
  refine wl_v (.int .i64 (predE (newF (8) (8) (7)) (0) (4) (4) (0))) rfl rfl (y_ext rfl rfl rfl ⟨rfl, rfl⟩) ?_
  refine wl_alloc_blk rfl rfl rfl blkT_block.2.2 fun p56 w57 e60 B58 k59 => ?_
  have g61 := onB_new (Nat.le_of_eq e60.symm)
  have gr62 : Grew w0 noB (onB p56) := Grew.new K55 g61
  have ap63 : Apart (onB p56) (T9) := Apart.new g61 (B51).live
  have ap64 : Apart (onB p56) (T10) := Apart.new g61 (B52).live
  have ap65 : Apart (onB p56) (T11) := Apart.new g61 (B53).live
  have ap66 : Apart (onB p56) (onB p25) := Apart.new g61 (onB_live (B54).lt)
  clear e60 g61
  have B67 := B51.all k59 Apart.none
  have B68 := B52.all k59 Apart.none
  have B69 := B53.all k59 Apart.none
  have B70 := B54.all k59 id
  have K71 := K55.trans k59 (fun _ _ x => x.elim)
  refine wl_store_blk blkT_block rfl rfl rfl rfl rfl B58 fun w72 B73 k74 => ?_
  have B75 := B67.all k74 (fun i h x => (((ap63).symm) i h x))
  have B76 := B68.all k74 (fun i h x => (((ap64).symm) i h x))
  have B77 := B69.all k74 (fun i h x => (((ap65).symm) i h x))
  have B78 := B70.all k74 (fun x => (((ap66).symm) p25 rfl x))
  have K79 := K71.trans k74 (Grew.ok (S := fun _ => False) gr62 noB_le)
  refine wl_v (.int .i64 (predE (newF (8) (8) (7)) (0) (4) (4) (0))) rfl rfl (y_asg rfl rfl ⟨rfl, rfl⟩) ?_
  refine wl_nil fun F80 hF81 => ?_
  have s82 : F80 99 = undef := (hF81 99).trans s47
  have s83 : F80 1 = .pointer (some ⟨p25, 0, none⟩) := (hF81 1).trans s48
  have s84 : F80 3 = .pointer (some ⟨p56, 0, none⟩) := (hF81 3).trans rfl
  have s85 : F80 4 = .int .i64 (predE (newF (8) (8) (7)) (0) (4) (4) (0)) := (hF81 4).trans rfl
  clear hF81
  refine then_normal ?_
  refine wq_seq ?_
  refine wq_region ?_
  refine wl_v (.agg #[.int .i64 ((newF (8) (8) (7)).W), .int .i64 ((newF (8) (8) (7)).H), v4, v5, v6]) rfl rfl (y_load_stc stcT_frame rfl s83 B78 ⟨rfl, rfl⟩) ?_
  refine wl_call (R := fun v_ w_ => v_ = .tuple #[blkV (predB (newF (8) (8) (7)) (0) (0) (0) (0)), .int .i64 (predE (newF (8) (8) (7)) (0) (0) (0) (0))] ∧ Kept (fun _ => False) w72 w_) rfl rfl (y_cs rfl rfl rfl (fun _ _ => by kernel_rfl) (ev_func _) (vsC rfl (vsC rfl (vsC rfl (vsC rfl (vsC rfl vsN))))) (il_predict (0) (0) (0) (0) (newF (8) (8) (7)) (v4) (v5) (v6) (T9) (T10) (T11) _  (B75).byt (B76).byt (B77).byt ) (fun e_ w_ h_ => ⟨_, h_.1, rfl, h_.2⟩)) ?_
  rintro _ w86 ⟨rfl, k87⟩
  have B88 := B75.all k87 Apart.none
  have B89 := B76.all k87 Apart.none
  have B90 := B77.all k87 Apart.none
  have B91 := B78.all k87 id
  have B92 := B73.all k87 id
  have K93 := K79.trans k87 (fun _ _ x => x.elim)
  refine wl_v (.tuple #[blkV (predB (newF (8) (8) (7)) (0) (0) (0) (0)), .int .i64 (predE (newF (8) (8) (7)) (0) (0) (0) (0))]) rfl rfl (y_mov rfl rfl ⟨rfl, rfl⟩) ?_
  refine wl_v (blkV (predB (newF (8) (8) (7)) (0) (0) (0) (0))) rfl rfl (y_ext rfl rfl rfl ⟨rfl, rfl⟩) ?_
  refine wl_v (.int .i64 (predE (newF (8) (8) (7)) (0) (0) (0) (0))) rfl rfl (y_ext rfl rfl rfl ⟨rfl, rfl⟩) ?_
  refine wl_alloc_blk rfl rfl rfl blkT_block.2.2 fun p94 w95 e98 B96 k97 => ?_
  have g99 := onB_new (Nat.le_of_eq e98.symm)
  have gr100 : Grew w0 noB (onB p94) := Grew.new K93 g99
  have ap101 : Apart (onB p94) (T9) := Apart.new g99 (B88).live
  have ap102 : Apart (onB p94) (T10) := Apart.new g99 (B89).live
  have ap103 : Apart (onB p94) (T11) := Apart.new g99 (B90).live
  have ap104 : Apart (onB p94) (onB p25) := Apart.new g99 (onB_live (B91).lt)
  have ap105 : Apart (onB p94) (onB p56) := Apart.new g99 (onB_live (B92).lt)
  clear e98 g99
  have B106 := B88.all k97 Apart.none
  have B107 := B89.all k97 Apart.none
  have B108 := B90.all k97 Apart.none
  have B109 := B91.all k97 id
  have B110 := B92.all k97 id
  have K111 := K93.trans k97 (fun _ _ x => x.elim)
  refine wl_store_blk blkT_block rfl rfl rfl rfl rfl B96 fun w112 B113 k114 => ?_
  have B115 := B106.all k114 (fun i h x => (((ap101).symm) i h x))
  have B116 := B107.all k114 (fun i h x => (((ap102).symm) i h x))
  have B117 := B108.all k114 (fun i h x => (((ap103).symm) i h x))
  have B118 := B109.all k114 (fun x => (((ap104).symm) p25 rfl x))
  have B119 := B110.all k114 (fun x => (((ap105).symm) p56 rfl x))
  have K120 := K111.trans k114 (Grew.ok (S := fun _ => False) gr100 noB_le)
  refine wl_v (.int .i64 (predE (newF (8) (8) (7)) (0) (0) (0) (0))) rfl rfl (y_asg rfl rfl ⟨rfl, rfl⟩) ?_
  refine wl_nil fun F121 hF122 => ?_
  have s123 : F121 99 = undef := (hF122 99).trans s82
  have s124 : F121 1 = .pointer (some ⟨p25, 0, none⟩) := (hF122 1).trans s83
  have s125 : F121 3 = .pointer (some ⟨p56, 0, none⟩) := (hF122 3).trans s84
  have s126 : F121 4 = .int .i64 (predE (newF (8) (8) (7)) (0) (4) (4) (0)) := (hF122 4).trans s85
  have s127 : F121 5 = .pointer (some ⟨p94, 0, none⟩) := (hF122 5).trans rfl
  clear hF122
  refine then_normal ?_
  refine wq_seq ?_
  refine wq_region ?_
  refine wl_v (.agg #[.int .i64 ((newF (8) (8) (7)).W), .int .i64 ((newF (8) (8) (7)).H), v4, v5, v6]) rfl rfl (y_load_stc stcT_frame rfl s124 B118 ⟨rfl, rfl⟩) ?_
  refine wl_call (R := fun v_ w_ => v_ = .tuple #[blkV (predB (newF (8) (8) (7)) (0) (0) (4) (1)), .int .i64 (predE (newF (8) (8) (7)) (0) (0) (4) (1))] ∧ Kept (fun _ => False) w112 w_) rfl rfl (y_cs rfl rfl rfl (fun _ _ => by kernel_rfl) (ev_func _) (vsC rfl (vsC rfl (vsC rfl (vsC rfl (vsC rfl vsN))))) (il_predict (0) (0) (4) (1) (newF (8) (8) (7)) (v4) (v5) (v6) (T9) (T10) (T11) _  (B115).byt (B116).byt (B117).byt ) (fun e_ w_ h_ => ⟨_, h_.1, rfl, h_.2⟩)) ?_
  rintro _ w128 ⟨rfl, k129⟩
  have B130 := B115.all k129 Apart.none
  have B131 := B116.all k129 Apart.none
  have B132 := B117.all k129 Apart.none
  have B133 := B118.all k129 id
  have B134 := B119.all k129 id
  have B135 := B113.all k129 id
  have K136 := K120.trans k129 (fun _ _ x => x.elim)
  refine wl_v (.tuple #[blkV (predB (newF (8) (8) (7)) (0) (0) (4) (1)), .int .i64 (predE (newF (8) (8) (7)) (0) (0) (4) (1))]) rfl rfl (y_mov rfl rfl ⟨rfl, rfl⟩) ?_
  refine wl_v (blkV (predB (newF (8) (8) (7)) (0) (0) (4) (1))) rfl rfl (y_ext rfl rfl rfl ⟨rfl, rfl⟩) ?_
  refine wl_v (.int .i64 (predE (newF (8) (8) (7)) (0) (0) (4) (1))) rfl rfl (y_ext rfl rfl rfl ⟨rfl, rfl⟩) ?_
  refine wl_alloc_blk rfl rfl rfl blkT_block.2.2 fun p137 w138 e141 B139 k140 => ?_
  have g142 := onB_new (Nat.le_of_eq e141.symm)
  have gr143 : Grew w0 noB (onB p137) := Grew.new K136 g142
  have ap144 : Apart (onB p137) (T9) := Apart.new g142 (B130).live
  have ap145 : Apart (onB p137) (T10) := Apart.new g142 (B131).live
  have ap146 : Apart (onB p137) (T11) := Apart.new g142 (B132).live
  have ap147 : Apart (onB p137) (onB p25) := Apart.new g142 (onB_live (B133).lt)
  have ap148 : Apart (onB p137) (onB p56) := Apart.new g142 (onB_live (B134).lt)
  have ap149 : Apart (onB p137) (onB p94) := Apart.new g142 (onB_live (B135).lt)
  clear e141 g142
  have B150 := B130.all k140 Apart.none
  have B151 := B131.all k140 Apart.none
  have B152 := B132.all k140 Apart.none
  have B153 := B133.all k140 id
  have B154 := B134.all k140 id
  have B155 := B135.all k140 id
  have K156 := K136.trans k140 (fun _ _ x => x.elim)
  refine wl_store_blk blkT_block rfl rfl rfl rfl rfl B139 fun w157 B158 k159 => ?_
  have B160 := B150.all k159 (fun i h x => (((ap144).symm) i h x))
  have B161 := B151.all k159 (fun i h x => (((ap145).symm) i h x))
  have B162 := B152.all k159 (fun i h x => (((ap146).symm) i h x))
  have B163 := B153.all k159 (fun x => (((ap147).symm) p25 rfl x))
  have B164 := B154.all k159 (fun x => (((ap148).symm) p56 rfl x))
  have B165 := B155.all k159 (fun x => (((ap149).symm) p94 rfl x))
  have K166 := K156.trans k159 (Grew.ok (S := fun _ => False) gr143 noB_le)
  refine wl_v (.int .i64 (predE (newF (8) (8) (7)) (0) (0) (4) (1))) rfl rfl (y_asg rfl rfl ⟨rfl, rfl⟩) ?_
  refine wl_nil fun F167 hF168 => ?_
  have s169 : F167 99 = undef := (hF168 99).trans s123
  have s170 : F167 1 = .pointer (some ⟨p25, 0, none⟩) := (hF168 1).trans s124
  have s171 : F167 3 = .pointer (some ⟨p56, 0, none⟩) := (hF168 3).trans s125
  have s172 : F167 4 = .int .i64 (predE (newF (8) (8) (7)) (0) (4) (4) (0)) := (hF168 4).trans s126
  have s173 : F167 5 = .pointer (some ⟨p94, 0, none⟩) := (hF168 5).trans s127
  have s174 : F167 7 = .pointer (some ⟨p137, 0, none⟩) := (hF168 7).trans rfl
  clear hF168
  refine then_normal ?_
  refine wq_seq ?_
  refine wq_region ?_
  refine wl_v (.agg #[.int .i64 ((newF (8) (8) (7)).W), .int .i64 ((newF (8) (8) (7)).H), v4, v5, v6]) rfl rfl (y_load_stc stcT_frame rfl s170 B163 ⟨rfl, rfl⟩) ?_
  refine wl_call (R := fun v_ w_ => v_ = .tuple #[blkV (predB (newF (8) (8) (7)) (0) (0) (0) (4)), .int .i64 (predE (newF (8) (8) (7)) (0) (0) (0) (4))] ∧ Kept (fun _ => False) w157 w_) rfl rfl (y_cs rfl rfl rfl (fun _ _ => by kernel_rfl) (ev_func _) (vsC rfl (vsC rfl (vsC rfl (vsC rfl (vsC rfl vsN))))) (il_predict (0) (0) (0) (4) (newF (8) (8) (7)) (v4) (v5) (v6) (T9) (T10) (T11) _  (B160).byt (B161).byt (B162).byt ) (fun e_ w_ h_ => ⟨_, h_.1, rfl, h_.2⟩)) ?_
  rintro _ w175 ⟨rfl, k176⟩
  have B177 := B160.all k176 Apart.none
  have B178 := B161.all k176 Apart.none
  have B179 := B162.all k176 Apart.none
  have B180 := B163.all k176 id
  have B181 := B164.all k176 id
  have B182 := B165.all k176 id
  have B183 := B158.all k176 id
  have K184 := K166.trans k176 (fun _ _ x => x.elim)
  refine wl_v (.tuple #[blkV (predB (newF (8) (8) (7)) (0) (0) (0) (4)), .int .i64 (predE (newF (8) (8) (7)) (0) (0) (0) (4))]) rfl rfl (y_mov rfl rfl ⟨rfl, rfl⟩) ?_
  refine wl_v (blkV (predB (newF (8) (8) (7)) (0) (0) (0) (4))) rfl rfl (y_ext rfl rfl rfl ⟨rfl, rfl⟩) ?_
  refine wl_v (.int .i64 (predE (newF (8) (8) (7)) (0) (0) (0) (4))) rfl rfl (y_ext rfl rfl rfl ⟨rfl, rfl⟩) ?_
  refine wl_alloc_blk rfl rfl rfl blkT_block.2.2 fun p185 w186 e189 B187 k188 => ?_
  have g190 := onB_new (Nat.le_of_eq e189.symm)
  have gr191 : Grew w0 noB (onB p185) := Grew.new K184 g190
  have ap192 : Apart (onB p185) (T9) := Apart.new g190 (B177).live
  have ap193 : Apart (onB p185) (T10) := Apart.new g190 (B178).live
  have ap194 : Apart (onB p185) (T11) := Apart.new g190 (B179).live
  have ap195 : Apart (onB p185) (onB p25) := Apart.new g190 (onB_live (B180).lt)
  have ap196 : Apart (onB p185) (onB p56) := Apart.new g190 (onB_live (B181).lt)
  have ap197 : Apart (onB p185) (onB p94) := Apart.new g190 (onB_live (B182).lt)
  have ap198 : Apart (onB p185) (onB p137) := Apart.new g190 (onB_live (B183).lt)
  clear e189 g190
  have B199 := B177.all k188 Apart.none
  have B200 := B178.all k188 Apart.none
  have B201 := B179.all k188 Apart.none
  have B202 := B180.all k188 id
  have B203 := B181.all k188 id
  have B204 := B182.all k188 id
  have B205 := B183.all k188 id
  have K206 := K184.trans k188 (fun _ _ x => x.elim)
  refine wl_store_blk blkT_block rfl rfl rfl rfl rfl B187 fun w207 B208 k209 => ?_
  have B210 := B199.all k209 (fun i h x => (((ap192).symm) i h x))
  have B211 := B200.all k209 (fun i h x => (((ap193).symm) i h x))
  have B212 := B201.all k209 (fun i h x => (((ap194).symm) i h x))
  have B213 := B202.all k209 (fun x => (((ap195).symm) p25 rfl x))
  have B214 := B203.all k209 (fun x => (((ap196).symm) p56 rfl x))
  have B215 := B204.all k209 (fun x => (((ap197).symm) p94 rfl x))
  have B216 := B205.all k209 (fun x => (((ap198).symm) p137 rfl x))
  have K217 := K206.trans k209 (Grew.ok (S := fun _ => False) gr191 noB_le)
  refine wl_v (.int .i64 (predE (newF (8) (8) (7)) (0) (0) (0) (4))) rfl rfl (y_asg rfl rfl ⟨rfl, rfl⟩) ?_
  refine wl_nil fun F218 hF219 => ?_
  have s220 : F218 99 = undef := (hF219 99).trans s169
  have s221 : F218 1 = .pointer (some ⟨p25, 0, none⟩) := (hF219 1).trans s170
  have s222 : F218 3 = .pointer (some ⟨p56, 0, none⟩) := (hF219 3).trans s171
  have s223 : F218 4 = .int .i64 (predE (newF (8) (8) (7)) (0) (4) (4) (0)) := (hF219 4).trans s172
  have s224 : F218 5 = .pointer (some ⟨p94, 0, none⟩) := (hF219 5).trans s173
  have s225 : F218 7 = .pointer (some ⟨p137, 0, none⟩) := (hF219 7).trans s174
  have s226 : F218 10 = .int .i64 (predE (newF (8) (8) (7)) (0) (0) (0) (4)) := (hF219 10).trans rfl
  clear hF219
  refine then_normal ?_
  refine wq_seq ?_
  refine wq_region ?_
  refine wl_v (.agg #[.int .i64 (0), .int .i64 (0), .slice none 0 0, .slice none 0 0, .slice none 0 0]) rfl rfl (y_buildL (l' := []) (cells := #[.int .i64 (0), .int .i64 (0), .slice none 0 0, .slice none 0 0, .slice none 0 0]) rfl bpN (by kernel_rfl) rfl ⟨rfl, rfl⟩) ?_
  refine wl_call (R := fun v_ w_ => v_ = .tuple #[blkV (predB (FD.mk (0) (0) ([]) ([]) ([])) (0) (0) (0) (0)), .int .i64 (predE (FD.mk (0) (0) ([]) ([]) ([])) (0) (0) (0) (0))] ∧ Kept (fun _ => False) w207 w_) rfl rfl (y_cs rfl rfl rfl (fun _ _ => by kernel_rfl) (ev_func _) (vsC rfl (vsC rfl (vsC rfl (vsC rfl (vsC rfl vsN))))) (il_predict (0) (0) (0) (0) (FD.mk (0) (0) ([]) ([]) ([])) (.slice none 0 0) (.slice none 0 0) (.slice none 0 0) (noB) (noB) (noB) _  (Byt.nil _) (Byt.nil _) (Byt.nil _) ) (fun e_ w_ h_ => ⟨_, h_.1, rfl, h_.2⟩)) ?_
  rintro _ w227 ⟨rfl, k228⟩
  have B229 := B210.all k228 Apart.none
  have B230 := B211.all k228 Apart.none
  have B231 := B212.all k228 Apart.none
  have B232 := B213.all k228 id
  have B233 := B214.all k228 id
  have B234 := B215.all k228 id
  have B235 := B216.all k228 id
  have B236 := B208.all k228 id
  have K237 := K217.trans k228 (fun _ _ x => x.elim)
  refine wl_v (.tuple #[blkV (predB (FD.mk (0) (0) ([]) ([]) ([])) (0) (0) (0) (0)), .int .i64 (predE (FD.mk (0) (0) ([]) ([]) ([])) (0) (0) (0) (0))]) rfl rfl (y_mov rfl rfl ⟨rfl, rfl⟩) ?_
  refine wl_v (blkV (predB (FD.mk (0) (0) ([]) ([]) ([])) (0) (0) (0) (0))) rfl rfl (y_ext rfl rfl rfl ⟨rfl, rfl⟩) ?_
  refine wl_v (.int .i64 (predE (FD.mk (0) (0) ([]) ([]) ([])) (0) (0) (0) (0))) rfl rfl (y_ext rfl rfl rfl ⟨rfl, rfl⟩) ?_
  refine wl_alloc_blk rfl rfl rfl blkT_block.2.2 fun p238 w239 e242 B240 k241 => ?_
  have g243 := onB_new (Nat.le_of_eq e242.symm)
  have gr244 : Grew w0 noB (onB p238) := Grew.new K237 g243
  have ap245 : Apart (onB p238) (T9) := Apart.new g243 (B229).live
  have ap246 : Apart (onB p238) (T10) := Apart.new g243 (B230).live
  have ap247 : Apart (onB p238) (T11) := Apart.new g243 (B231).live
  have ap248 : Apart (onB p238) (onB p25) := Apart.new g243 (onB_live (B232).lt)
  have ap249 : Apart (onB p238) (onB p56) := Apart.new g243 (onB_live (B233).lt)
  have ap250 : Apart (onB p238) (onB p94) := Apart.new g243 (onB_live (B234).lt)
  have ap251 : Apart (onB p238) (onB p137) := Apart.new g243 (onB_live (B235).lt)
  have ap252 : Apart (onB p238) (onB p185) := Apart.new g243 (onB_live (B236).lt)
  clear e242 g243
  have B253 := B229.all k241 Apart.none
  have B254 := B230.all k241 Apart.none
  have B255 := B231.all k241 Apart.none
  have B256 := B232.all k241 id
  have B257 := B233.all k241 id
  have B258 := B234.all k241 id
  have B259 := B235.all k241 id
  have B260 := B236.all k241 id
  have K261 := K237.trans k241 (fun _ _ x => x.elim)
  refine wl_store_blk blkT_block rfl rfl rfl rfl rfl B240 fun w262 B263 k264 => ?_
  have B265 := B253.all k264 (fun i h x => (((ap245).symm) i h x))
  have B266 := B254.all k264 (fun i h x => (((ap246).symm) i h x))
  have B267 := B255.all k264 (fun i h x => (((ap247).symm) i h x))
  have B268 := B256.all k264 (fun x => (((ap248).symm) p25 rfl x))
  have B269 := B257.all k264 (fun x => (((ap249).symm) p56 rfl x))
  have B270 := B258.all k264 (fun x => (((ap250).symm) p94 rfl x))
  have B271 := B259.all k264 (fun x => (((ap251).symm) p137 rfl x))
  have B272 := B260.all k264 (fun x => (((ap252).symm) p185 rfl x))
  have K273 := K261.trans k264 (Grew.ok (S := fun _ => False) gr244 noB_le)
  refine wl_v (.int .i64 (predE (FD.mk (0) (0) ([]) ([]) ([])) (0) (0) (0) (0))) rfl rfl (y_asg rfl rfl ⟨rfl, rfl⟩) ?_
  refine wl_nil fun F274 hF275 => ?_
  have s276 : F274 99 = undef := (hF275 99).trans s220
  have s277 : F274 1 = .pointer (some ⟨p25, 0, none⟩) := (hF275 1).trans s221
  have s278 : F274 3 = .pointer (some ⟨p56, 0, none⟩) := (hF275 3).trans s222
  have s279 : F274 4 = .int .i64 (predE (newF (8) (8) (7)) (0) (4) (4) (0)) := (hF275 4).trans s223
  have s280 : F274 5 = .pointer (some ⟨p94, 0, none⟩) := (hF275 5).trans s224
  have s281 : F274 7 = .pointer (some ⟨p137, 0, none⟩) := (hF275 7).trans s225
  have s282 : F274 10 = .int .i64 (predE (newF (8) (8) (7)) (0) (0) (0) (4)) := (hF275 10).trans s226
  have s283 : F274 12 = .int .i64 (predE (FD.mk (0) (0) ([]) ([]) ([])) (0) (0) (0) (0)) := (hF275 12).trans rfl
  clear hF275
  refine then_normal ?_
  refine wq_seq ?_
  refine wq_region ?_
  refine wl_v (.agg #[.int .i64 ((newF (8) (8) (7)).W), .int .i64 ((newF (8) (8) (7)).H), v4, v5, v6]) rfl rfl (y_load_stc stcT_frame rfl s277 B268 ⟨rfl, rfl⟩) ?_
  refine wl_v (blkV (predB (newF (8) (8) (7)) (0) (4) (4) (0))) rfl rfl (y_load_blk blkT_block rfl s278 B269 ⟨rfl, rfl⟩) ?_
  refine wl_call (R := fun v_ w_ => v_ = .tuple #[.int .i64 ((bestF (newF (8) (8) (7)) (0) (4) (4) (predB (newF (8) (8) (7)) (0) (4) (4) (0))).1), .int .i64 ((bestF (newF (8) (8) (7)) (0) (4) (4) (predB (newF (8) (8) (7)) (0) (4) (4) (0))).2)] ∧ Kept (fun _ => False) w262 w_) rfl rfl (y_cs rfl rfl rfl (fun _ _ => by kernel_rfl) (ev_func _) (vsC rfl (vsC rfl (vsC rfl (vsC rfl (vsC rfl vsN))))) (il_best (0) (4) (4) (predB (newF (8) (8) (7)) (0) (4) (4) (0)) (newF (8) (8) (7)) (v4) (v5) (v6) (T9) (T10) (T11) _  (B265).byt (B266).byt (B267).byt ) (fun e_ w_ h_ => ⟨_, h_.1, rfl, h_.2⟩)) ?_
  rintro _ w284 ⟨rfl, k285⟩
  have B286 := B265.all k285 Apart.none
  have B287 := B266.all k285 Apart.none
  have B288 := B267.all k285 Apart.none
  have B289 := B268.all k285 id
  have B290 := B269.all k285 id
  have B291 := B270.all k285 id
  have B292 := B271.all k285 id
  have B293 := B272.all k285 id
  have B294 := B263.all k285 id
  have K295 := K273.trans k285 (fun _ _ x => x.elim)
  refine wl_v (.tuple #[.int .i64 ((bestF (newF (8) (8) (7)) (0) (4) (4) (predB (newF (8) (8) (7)) (0) (4) (4) (0))).1), .int .i64 ((bestF (newF (8) (8) (7)) (0) (4) (4) (predB (newF (8) (8) (7)) (0) (4) (4) (0))).2)]) rfl rfl (y_mov rfl rfl ⟨rfl, rfl⟩) ?_
  refine wl_v (.int .i64 ((bestF (newF (8) (8) (7)) (0) (4) (4) (predB (newF (8) (8) (7)) (0) (4) (4) (0))).1)) rfl rfl (y_ext rfl rfl rfl ⟨rfl, rfl⟩) ?_
  refine wl_v (.int .i64 ((bestF (newF (8) (8) (7)) (0) (4) (4) (predB (newF (8) (8) (7)) (0) (4) (4) (0))).2)) rfl rfl (y_ext rfl rfl rfl ⟨rfl, rfl⟩) ?_
  refine wl_v (.int .i64 ((bestF (newF (8) (8) (7)) (0) (4) (4) (predB (newF (8) (8) (7)) (0) (4) (4) (0))).1)) rfl rfl (y_asg rfl rfl ⟨rfl, rfl⟩) ?_
  refine wl_v (.int .i64 ((bestF (newF (8) (8) (7)) (0) (4) (4) (predB (newF (8) (8) (7)) (0) (4) (4) (0))).2)) rfl rfl (y_asg rfl rfl ⟨rfl, rfl⟩) ?_
  refine wl_nil fun F296 hF297 => ?_
  have s298 : F296 99 = undef := (hF297 99).trans s276
  have s299 : F296 3 = .pointer (some ⟨p56, 0, none⟩) := (hF297 3).trans s278
  have s300 : F296 4 = .int .i64 (predE (newF (8) (8) (7)) (0) (4) (4) (0)) := (hF297 4).trans s279
  have s301 : F296 5 = .pointer (some ⟨p94, 0, none⟩) := (hF297 5).trans s280
  have s302 : F296 7 = .pointer (some ⟨p137, 0, none⟩) := (hF297 7).trans s281
  have s303 : F296 10 = .int .i64 (predE (newF (8) (8) (7)) (0) (0) (0) (4)) := (hF297 10).trans s282
  have s304 : F296 12 = .int .i64 (predE (FD.mk (0) (0) ([]) ([]) ([])) (0) (0) (0) (0)) := (hF297 12).trans s283
  have s305 : F296 13 = .int .i64 ((bestF (newF (8) (8) (7)) (0) (4) (4) (predB (newF (8) (8) (7)) (0) (4) (4) (0))).1) := (hF297 13).trans rfl
  have s306 : F296 14 = .int .i64 ((bestF (newF (8) (8) (7)) (0) (4) (4) (predB (newF (8) (8) (7)) (0) (4) (4) (0))).2) := (hF297 14).trans rfl
  clear hF297
  refine then_normal ?_
  refine wq_seq ?_
  refine wq_region ?_
  refine wl_v (.int .i64 (predE (newF (8) (8) (7)) (0) (4) (4) (0))) rfl rfl (y_mov rfl s300 ⟨rfl, rfl⟩) ?_
  refine wl_v (.bool true) rfl rfl (y_eqlI rfl rfl rfl (decide_eq_true hf.out.1) ⟨rfl, rfl⟩) ?_
  refine wl_v (.bool true) rfl rfl (y_mov rfl rfl ⟨rfl, rfl⟩) ?_
  refine wl_vw (.pointer (some ⟨p56, 9, none⟩)) 2 true 52 rfl rfl rfl rfl rfl (y_atR (9) (s := 1) rfl s299 rfl (by omega) Try.underlying29 (by omega) (by kernel_rfl) (by omega) ⟨rfl, rfl⟩) ?_
  refine wl_vw (.int .i64 ((predB (newF (8) (8) (7)) (0) (4) (4) (0)) (9))) 2 true 52 rfl rfl rfl rfl rfl (y_ldR rfl rfl Try.underlying3 ((B290).cell (by omega)) ⟨rfl, rfl⟩) ?_
  refine wl_vw (.bool true) 2 true 52 rfl rfl rfl rfl rfl (y_eqlI rfl rfl rfl (decide_eq_true hf.out.2.1) ⟨rfl, rfl⟩) ?_
  refine wl_v (.bool true) rfl rfl (y_pickT rfl rfl rfl ⟨rfl, rfl⟩) ?_
  refine wl_v (.bool true) rfl rfl (y_mov rfl rfl ⟨rfl, rfl⟩) ?_
  refine wl_vw (.pointer (some ⟨p94, 3, none⟩)) 7 true 57 rfl rfl rfl rfl rfl (y_atR (3) (s := 1) rfl s301 rfl (by omega) Try.underlying29 (by omega) (by kernel_rfl) (by omega) ⟨rfl, rfl⟩) ?_
  refine wl_vw (.int .i64 ((predB (newF (8) (8) (7)) (0) (0) (0) (0)) (3))) 7 true 57 rfl rfl rfl rfl rfl (y_ldR rfl rfl Try.underlying3 ((B291).cell (by omega)) ⟨rfl, rfl⟩) ?_
  refine wl_vw (.bool true) 7 true 57 rfl rfl rfl rfl rfl (y_eqlI rfl rfl rfl (decide_eq_true hf.out.2.2.1) ⟨rfl, rfl⟩) ?_
  refine wl_v (.bool true) rfl rfl (y_pickT rfl rfl rfl ⟨rfl, rfl⟩) ?_
  refine wl_v (.bool true) rfl rfl (y_mov rfl rfl ⟨rfl, rfl⟩) ?_
  refine wl_vw (.pointer (some ⟨p137, 0, none⟩)) 12 true 62 rfl rfl rfl rfl rfl (y_atR (0) (s := 1) rfl s302 rfl (by omega) Try.underlying29 (by omega) (by kernel_rfl) (by omega) ⟨rfl, rfl⟩) ?_
  refine wl_vw (.int .i64 ((predB (newF (8) (8) (7)) (0) (0) (4) (1)) (0))) 12 true 62 rfl rfl rfl rfl rfl (y_ldR rfl rfl Try.underlying3 ((B292).cell (by omega)) ⟨rfl, rfl⟩) ?_
  refine wl_vw (.bool true) 12 true 62 rfl rfl rfl rfl rfl (y_eqlI rfl rfl rfl (decide_eq_true hf.out.2.2.2.1) ⟨rfl, rfl⟩) ?_
  refine wl_v (.bool true) rfl rfl (y_pickT rfl rfl rfl ⟨rfl, rfl⟩) ?_
  refine wl_v (.bool true) rfl rfl (y_mov rfl rfl ⟨rfl, rfl⟩) ?_
  refine wl_vw (.int .i64 (predE (newF (8) (8) (7)) (0) (0) (0) (4))) 17 true 67 rfl rfl rfl rfl rfl (y_mov rfl s303 ⟨rfl, rfl⟩) ?_
  refine wl_vw (.bool true) 17 true 67 rfl rfl rfl rfl rfl (y_eqlI rfl rfl rfl (decide_eq_true hf.out.2.2.2.2.1) ⟨rfl, rfl⟩) ?_
  refine wl_v (.bool true) rfl rfl (y_pickT rfl rfl rfl ⟨rfl, rfl⟩) ?_
  refine wl_v (.bool true) rfl rfl (y_mov rfl rfl ⟨rfl, rfl⟩) ?_
  refine wl_vw (.int .i64 (predE (FD.mk (0) (0) ([]) ([]) ([])) (0) (0) (0) (0))) 21 true 71 rfl rfl rfl rfl rfl (y_mov rfl s304 ⟨rfl, rfl⟩) ?_
  refine wl_vw (.bool true) 21 true 71 rfl rfl rfl rfl rfl (y_eqlI rfl rfl rfl (decide_eq_true hf.out.2.2.2.2.2.1) ⟨rfl, rfl⟩) ?_
  refine wl_v (.bool true) rfl rfl (y_pickT rfl rfl rfl ⟨rfl, rfl⟩) ?_
  refine wl_v (.bool true) rfl rfl (y_mov rfl rfl ⟨rfl, rfl⟩) ?_
  refine wl_vw (.int .i64 ((bestF (newF (8) (8) (7)) (0) (4) (4) (predB (newF (8) (8) (7)) (0) (4) (4) (0))).1)) 25 true 75 rfl rfl rfl rfl rfl (y_mov rfl s305 ⟨rfl, rfl⟩) ?_
  refine wl_vw (.bool true) 25 true 75 rfl rfl rfl rfl rfl (y_eqlI rfl rfl rfl (decide_eq_true hf.out.2.2.2.2.2.2.1) ⟨rfl, rfl⟩) ?_
  refine wl_v (.bool true) rfl rfl (y_pickT rfl rfl rfl ⟨rfl, rfl⟩) ?_
  refine wl_v (.bool true) rfl rfl (y_mov rfl rfl ⟨rfl, rfl⟩) ?_
  refine wl_vw (.int .i64 ((bestF (newF (8) (8) (7)) (0) (4) (4) (predB (newF (8) (8) (7)) (0) (4) (4) (0))).2)) 29 true 79 rfl rfl rfl rfl rfl (y_mov rfl s306 ⟨rfl, rfl⟩) ?_
  refine wl_vw (.bool true) 29 true 79 rfl rfl rfl rfl rfl (y_eqlI rfl rfl rfl (decide_eq_true hf.out.2.2.2.2.2.2.2.1) ⟨rfl, rfl⟩) ?_
  refine wl_v (.bool true) rfl rfl (y_pickT rfl rfl rfl ⟨rfl, rfl⟩) ?_
  refine wl_v (.bool true) rfl rfl (y_mov rfl rfl ⟨rfl, rfl⟩) ?_
  refine wl_vw (blkV (predB (newF (8) (8) (7)) (0) (4) (4) (0))) 33 true 83 rfl rfl rfl rfl rfl (y_load_blk blkT_block rfl s299 B290 ⟨rfl, rfl⟩) ?_
  refine wl_vw (blkV (predB (newF (8) (8) (7)) (0) (0) (0) (0))) 33 true 83 rfl rfl rfl rfl rfl (y_load_blk blkT_block rfl s301 B291 ⟨rfl, rfl⟩) ?_
  refine wl_callw (R := fun v_ w_ => v_ = .int .i64 (costF (predB (newF (8) (8) (7)) (0) (4) (4) (0)) (predB (newF (8) (8) (7)) (0) (0) (0) (0))) ∧ Kept (fun _ => False) w284 w_) 33 true 83 rfl rfl rfl rfl rfl (y_cs rfl rfl rfl (fun _ _ => by kernel_rfl) (ev_func _) (vsC rfl (vsC rfl vsN)) (il_cost (predB (newF (8) (8) (7)) (0) (4) (4) (0)) (predB (newF (8) (8) (7)) (0) (0) (0) (0))  _   ) (fun e_ w_ h_ => ⟨_, h_.1, rfl, h_.2⟩)) ?_
  rintro _ w307 ⟨rfl, k308⟩
  have B309 := B286.all k308 Apart.none
  have B310 := B287.all k308 Apart.none
  have B311 := B288.all k308 Apart.none
  have B312 := B289.all k308 id
  have B313 := B290.all k308 id
  have B314 := B291.all k308 id
  have B315 := B292.all k308 id
  have B316 := B293.all k308 id
  have B317 := B294.all k308 id
  have K318 := K295.trans k308 (fun _ _ x => x.elim)
  refine wl_vw (.bool true) 33 true 83 rfl rfl rfl rfl rfl (y_eqlI rfl rfl rfl (decide_eq_true hf.out.2.2.2.2.2.2.2.2) ⟨rfl, rfl⟩) ?_
  refine wl_v (.bool true) rfl rfl (y_pickT rfl rfl rfl ⟨rfl, rfl⟩) ?_
  refine wl_v (.bool true) rfl rfl (y_mov rfl rfl ⟨rfl, rfl⟩) ?_
  refine wl_v (.bool true) rfl rfl (y_pickT rfl rfl rfl ⟨rfl, rfl⟩) ?_
  refine wl_v (.bool true) rfl rfl (y_mov rfl rfl ⟨rfl, rfl⟩) ?_
  refine wl_v (.bool true) rfl rfl (y_pickT rfl rfl rfl ⟨rfl, rfl⟩) ?_
  refine wl_v (.bool true) rfl rfl (y_mov rfl rfl ⟨rfl, rfl⟩) ?_
  refine wl_v (.bool true) rfl rfl (y_pickT rfl rfl rfl ⟨rfl, rfl⟩) ?_
  refine wl_v (.bool true) rfl rfl (y_mov rfl rfl ⟨rfl, rfl⟩) ?_
  refine wl_v (.bool true) rfl rfl (y_pickT rfl rfl rfl ⟨rfl, rfl⟩) ?_
  refine wl_v (.bool true) rfl rfl (y_mov rfl rfl ⟨rfl, rfl⟩) ?_
  refine wl_v (.bool true) rfl rfl (y_pickT rfl rfl rfl ⟨rfl, rfl⟩) ?_
  refine wl_v (.bool true) rfl rfl (y_asg rfl rfl ⟨rfl, rfl⟩) ?_
  refine wl_nil fun F319 hF320 => ?_
  have s321 : F319 99 = undef := (hF320 99).trans s298
  have s322 : F319 0 = .bool true := (hF320 0).trans rfl
  clear hF320
  refine then_normal ?_
  refine wq_ret ?_
  exact end_tmp (v := .bool true) s321 rfl rfl s322 ⟨rfl, K318⟩

set_option maxHeartbeats 4000000 in
set_option maxRecDepth 100000 in
theorem icosts_walk (a b c : Nat → Int) (w0 : World) :
    Calls Try.prog 6 #[blkV (a), blkV (b), blkV (c)] w0 fun e w' => e = .returned (.bool true) ∧ Kept (fun _ => False) w0 w' := by
  refine calls_wq (args := [blkV (a), blkV (b), blkV (c)]) 63 Try.func6 rfl rfl (Nat.le_of_ble_eq_true rfl) ?_
  have K0 := Kept.refl (fun _ => False) w0
  have h1 := Lib.hid (cost_symm (clB 1048576 a) (clB 1048576 b))
  have h2 := Lib.hid (cost_third (clB 1048576 a) (clB 1048576 b) c)
  have h3 := costTo_le (clB 1048576 a) c 16
  have h4 := costTo_le c (clB 1048576 b) 16
  have h5 := Lib.hid (costTo_le (clB 1048576 a) (clB 1048576 b) 16)
  have e3 : costF (clB 1048576 a) c = costTo (clB 1048576 a) c 16 := rfl
  have e4 : costF c (clB 1048576 b) = costTo c (clB 1048576 b) 16 := rfl
  refine wq_seq ?_
  refine wq_region ?_
  refine wl_box_blk rfl rfl rfl rfl fun p1 w2 e5 B3 k4 => ?_
  have g6 := onB_new (Nat.le_of_eq e5.symm)
  have gr7 : Grew w0 noB (onB p1) := Grew.new K0 g6
  clear e5 g6
  have K8 := K0.trans k4 (fun _ _ x => x.elim)
  refine wl_box_blk rfl rfl rfl rfl fun p9 w10 e13 B11 k12 => ?_
  have g14 := onB_new (Nat.le_of_eq e13.symm)
  have gr15 : Grew w0 noB (onB p9) := Grew.new K8 g14
  have ap16 : Apart (onB p9) (onB p1) := Apart.new g14 (onB_live (B3).lt)
  clear e13 g14
  have B17 := B3.all k12 id
  have K18 := K8.trans k12 (fun _ _ x => x.elim)
  refine wl_box_blk rfl rfl rfl rfl fun p19 w20 e23 B21 k22 => ?_
  have g24 := onB_new (Nat.le_of_eq e23.symm)
  have gr25 : Grew w0 noB (onB p19) := Grew.new K18 g24
  have ap26 : Apart (onB p19) (onB p1) := Apart.new g24 (onB_live (B17).lt)
  have ap27 : Apart (onB p19) (onB p9) := Apart.new g24 (onB_live (B11).lt)
  clear e23 g24
  have B28 := B17.all k22 id
  have B29 := B11.all k22 id
  have K30 := K18.trans k22 (fun _ _ x => x.elim)
  refine wl_v (.bool false) rfl rfl (y_asg rfl rfl ⟨rfl, rfl⟩) ?_
  refine wl_nil fun F31 hF32 => ?_
  have s33 : F31 63 = undef := (hF32 63).trans rfl
  have s34 : F31 3 = .pointer (some ⟨p1, 0, none⟩) := (hF32 3).trans rfl
  have s35 : F31 4 = .pointer (some ⟨p9, 0, none⟩) := (hF32 4).trans rfl
  have s36 : F31 5 = .pointer (some ⟨p19, 0, none⟩) := (hF32 5).trans rfl
  clear hF32
  refine then_normal ?_
  refine wq_seq ?_
  refine wq_region ?_
  refine wl_call (R := fun v_ w_ => v_ = .bool true ∧ Kept (fun _ => False) w20 w_) rfl rfl (y_cs rfl rfl rfl (fun _ _ => by kernel_rfl) (ev_func _) vsN (iawake   _   ) (fun e_ w_ h_ => ⟨_, h_.1, rfl, h_.2⟩)) ?_
  rintro _ w37 ⟨rfl, k38⟩
  have B39 := B28.all k38 id
  have B40 := B29.all k38 id
  have B41 := B21.all k38 id
  have K42 := K30.trans k38 (fun _ _ x => x.elim)
  refine wl_v (.bool true) rfl rfl (y_asg rfl rfl ⟨rfl, rfl⟩) ?_
  refine wl_nil fun F43 hF44 => ?_
  have s45 : F43 63 = undef := (hF44 63).trans s33
  have s46 : F43 3 = .pointer (some ⟨p1, 0, none⟩) := (hF44 3).trans s34
  have s47 : F43 4 = .pointer (some ⟨p9, 0, none⟩) := (hF44 4).trans s35
  have s48 : F43 5 = .pointer (some ⟨p19, 0, none⟩) := (hF44 5).trans s36
  have s49 : F43 7 = .bool true := (hF44 7).trans rfl
  clear hF44
  refine then_normal ?_
  refine wq_seq ?_
  refine wq_seq ?_
  refine wq_region ?_
  refine wl_v (.int .i64 (0)) rfl rfl (y_asg rfl rfl ⟨rfl, rfl⟩) ?_
  refine wl_nil fun F50 hF51 => ?_
  have s52 : F50 63 = undef := (hF51 63).trans s45
  have s53 : F50 3 = .pointer (some ⟨p1, 0, none⟩) := (hF51 3).trans s46
  have s54 : F50 4 = .pointer (some ⟨p9, 0, none⟩) := (hF51 4).trans s47
  have s55 : F50 5 = .pointer (some ⟨p19, 0, none⟩) := (hF51 5).trans s48
  have s56 : F50 7 = .bool true := (hF51 7).trans s49
  have s57 : F50 8 = .int .i64 (0) := (hF51 8).trans rfl
  clear hF51
  refine then_normal ?_
  refine wq_block ?_
  refine wq_loop (fun nn FF ww => ∃ (k : Nat), (k ≤ 16) ∧ nn = 16 - k ∧ FF 3 = .pointer (some ⟨p1, 0, none⟩) ∧ FF 4 = .pointer (some ⟨p9, 0, none⟩) ∧ FF 5 = .pointer (some ⟨p19, 0, none⟩) ∧ FF 7 = .bool true ∧ FF 63 = undef ∧ FF 8 = .int .i64 (((k : Nat) : Int)) ∧ Kept (fun _ => False) w0 ww ∧ Blk ww p1 26 (upto k a (clB 1048576 a)) ∧ Blk ww p9 26 (upto k b (clB 1048576 b)) ∧ Blk ww p19 26 (c)) (16 - (0)) ⟨0, by omega, rfl, s53, s54, s55, s56, s52, s57, K42, B39.first, B40.first, B41⟩ ?_
  rintro n61 F58 w59 ⟨k, i62, hn61, s63, s64, s65, s66, s67, s68, K60, B69, B70, B71⟩
  refine wq_seq ?_
  refine wq_seq ?_
  refine wq_region ?_
  refine wl_v (.int .i64 (((k : Nat) : Int))) rfl rfl (y_mov rfl s68 ⟨rfl, rfl⟩) ?_
  refine wl_v (.bool (decide ((((k : Nat) : Int)) < (16)))) rfl rfl (y_lss rfl rfl rfl rfl ⟨rfl, rfl⟩) ?_
  refine wl_nil fun F72 hF73 => ?_
  have s74 : F72 3 = .pointer (some ⟨p1, 0, none⟩) := (hF73 3).trans s63
  have s75 : F72 4 = .pointer (some ⟨p9, 0, none⟩) := (hF73 4).trans s64
  have s76 : F72 5 = .pointer (some ⟨p19, 0, none⟩) := (hF73 5).trans s65
  have s77 : F72 7 = .bool true := (hF73 7).trans s66
  have s78 : F72 63 = undef := (hF73 63).trans s67
  have s79 : F72 8 = .int .i64 (((k : Nat) : Int)) := (hF73 8).trans s68
  have s80 : F72 12 = .bool (decide ((((k : Nat) : Int)) < (16))) := (hF73 12).trans rfl
  clear hF73
  refine then_normal ?_
  refine wq_cond s80 (fun c81 => ?_) (fun c81 => ?_)
  · replace c81 := of_decide_eq_true c81
    refine wq_skip ?_
    refine then_normal ?_
    refine wq_seq ?_
    refine wq_block ?_
    refine wq_seq ?_
    refine wq_region ?_
    refine wl_v (.int .i64 (((k : Nat) : Int))) rfl rfl (y_mov rfl s79 ⟨rfl, rfl⟩) ?_
    refine wl_v (.int .i64 (((k : Nat) : Int))) rfl rfl (y_mov rfl s79 ⟨rfl, rfl⟩) ?_
    refine wl_v (.pointer (some ⟨p1, k, none⟩)) rfl rfl (y_atR (k) (s := 1) rfl s74 rfl (by omega) Try.underlying26 (by omega) (by kernel_rfl) (by omega) ⟨rfl, rfl⟩) ?_
    refine wl_v (.int .i64 (a k)) rfl rfl (y_ldR rfl rfl Try.underlying3 (((B69).cell (by omega)).trans (some_int (upto_at k _ _))) ⟨rfl, rfl⟩) ?_
    refine wl_v (.int .i64 (max (a k) (-1048576))) rfl rfl (y_maxR rfl rfl rfl rfl ⟨rfl, rfl⟩) ?_
    refine wl_v (.int .i64 (cl 1048576 (a k))) rfl rfl (y_minR rfl rfl rfl (by unfold cl; omega) ⟨rfl, rfl⟩) ?_
    refine wl_v (.pointer (some ⟨p1, k, none⟩)) rfl rfl (y_atR (k) (s := 1) rfl s74 rfl (by omega) Try.underlying26 (by omega) (by kernel_rfl) (by omega) ⟨rfl, rfl⟩) ?_
    refine wl_set_blk rfl rfl rfl rfl rfl B69 (by omega) (by kernel_rfl) fun w82 B83 k84 => ?_
    have B85 := B70.all k84 (fun x => ((ap16) p9 rfl x))
    have B86 := B71.all k84 (fun x => ((ap26) p19 rfl x))
    have K87 := K60.trans k84 (Grew.ok (S := fun _ => False) gr7 noB_le)
    refine wl_nil fun F88 hF89 => ?_
    have s90 : F88 3 = .pointer (some ⟨p1, 0, none⟩) := (hF89 3).trans s74
    have s91 : F88 4 = .pointer (some ⟨p9, 0, none⟩) := (hF89 4).trans s75
    have s92 : F88 5 = .pointer (some ⟨p19, 0, none⟩) := (hF89 5).trans s76
    have s93 : F88 7 = .bool true := (hF89 7).trans s77
    have s94 : F88 63 = undef := (hF89 63).trans s78
    have s95 : F88 8 = .int .i64 (((k : Nat) : Int)) := (hF89 8).trans s79
    clear hF89
    refine then_normal ?_
    refine wq_region ?_
    refine wl_v (.int .i64 (((k : Nat) : Int))) rfl rfl (y_mov rfl s95 ⟨rfl, rfl⟩) ?_
    refine wl_v (.int .i64 (((k : Nat) : Int))) rfl rfl (y_mov rfl s95 ⟨rfl, rfl⟩) ?_
    refine wl_v (.pointer (some ⟨p9, k, none⟩)) rfl rfl (y_atR (k) (s := 1) rfl s91 rfl (by omega) Try.underlying26 (by omega) (by kernel_rfl) (by omega) ⟨rfl, rfl⟩) ?_
    refine wl_v (.int .i64 (b k)) rfl rfl (y_ldR rfl rfl Try.underlying3 (((B85).cell (by omega)).trans (some_int (upto_at k _ _))) ⟨rfl, rfl⟩) ?_
    refine wl_v (.int .i64 (max (b k) (-1048576))) rfl rfl (y_maxR rfl rfl rfl rfl ⟨rfl, rfl⟩) ?_
    refine wl_v (.int .i64 (cl 1048576 (b k))) rfl rfl (y_minR rfl rfl rfl (by unfold cl; omega) ⟨rfl, rfl⟩) ?_
    refine wl_v (.pointer (some ⟨p9, k, none⟩)) rfl rfl (y_atR (k) (s := 1) rfl s91 rfl (by omega) Try.underlying26 (by omega) (by kernel_rfl) (by omega) ⟨rfl, rfl⟩) ?_
    refine wl_set_blk rfl rfl rfl rfl rfl B85 (by omega) (by kernel_rfl) fun w96 B97 k98 => ?_
    have B99 := B83.all k98 (fun x => (((ap16).symm) p1 rfl x))
    have B100 := B86.all k98 (fun x => ((ap27) p19 rfl x))
    have K101 := K87.trans k98 (Grew.ok (S := fun _ => False) gr15 noB_le)
    refine wl_nil fun F102 hF103 => ?_
    have s104 : F102 3 = .pointer (some ⟨p1, 0, none⟩) := (hF103 3).trans s90
    have s105 : F102 4 = .pointer (some ⟨p9, 0, none⟩) := (hF103 4).trans s91
    have s106 : F102 5 = .pointer (some ⟨p19, 0, none⟩) := (hF103 5).trans s92
    have s107 : F102 7 = .bool true := (hF103 7).trans s93
    have s108 : F102 63 = undef := (hF103 63).trans s94
    have s109 : F102 8 = .int .i64 (((k : Nat) : Int)) := (hF103 8).trans s95
    clear hF103
    refine in_normal ?_
    refine then_normal ?_
    refine wq_region ?_
    refine wl_v (.int .i64 (((k : Nat) : Int))) rfl rfl (y_mov rfl s109 ⟨rfl, rfl⟩) ?_
    refine wl_v (.int .i64 (((k + 1 : Nat) : Int))) rfl rfl (y_add rfl rfl rfl (i64_n (by omega) (by omega)) ⟨rfl, rfl⟩) ?_
    refine wl_v (.int .i64 (((k + 1 : Nat) : Int))) rfl rfl (y_asg rfl rfl ⟨rfl, rfl⟩) ?_
    refine wl_nil fun F110 hF111 => ?_
    have s112 : F110 3 = .pointer (some ⟨p1, 0, none⟩) := (hF111 3).trans s104
    have s113 : F110 4 = .pointer (some ⟨p9, 0, none⟩) := (hF111 4).trans s105
    have s114 : F110 5 = .pointer (some ⟨p19, 0, none⟩) := (hF111 5).trans s106
    have s115 : F110 7 = .bool true := (hF111 7).trans s107
    have s116 : F110 63 = undef := (hF111 63).trans s108
    have s117 : F110 8 = .int .i64 (((k + 1 : Nat) : Int)) := (hF111 8).trans rfl
    clear hF111
    exact then_normal ⟨(16 - (k + 1)), by omega, k + 1, by omega, rfl, s112, s113, s114, s115, s116, s117, K101, (B99.next rfl), (B97.next rfl), B100⟩
  · replace c81 := of_decide_eq_false c81
    refine wq_exit ?_
    refine then_exit ?_
    refine then_exit ?_
    have l118 : 16 = k := by omega
    subst l118
    have B119 : Blk w59 p1 26 (clB 1048576 a) := (B69.last)
    have B120 : Blk w59 p9 26 (clB 1048576 b) := (B70.last)
    refine in_here ?_
    refine then_normal ?_
    refine wq_seq ?_
    refine wq_region ?_
    refine wl_v (blkV (clB 1048576 a)) rfl rfl (y_load_blk blkT_arr rfl s74 B119 ⟨rfl, rfl⟩) ?_
    refine wl_v (blkV (clB 1048576 b)) rfl rfl (y_load_blk blkT_arr rfl s75 B120 ⟨rfl, rfl⟩) ?_
    refine wl_call (R := fun v_ w_ => v_ = .int .i64 (costF (clB 1048576 a) (clB 1048576 b)) ∧ Kept (fun _ => False) w59 w_) rfl rfl (y_cs rfl rfl rfl (fun _ _ => by kernel_rfl) (ev_func _) (vsC rfl (vsC rfl vsN)) (il_cost (clB 1048576 a) (clB 1048576 b)  _   ) (fun e_ w_ h_ => ⟨_, h_.1, rfl, h_.2⟩)) ?_
    rintro _ w121 ⟨rfl, k122⟩
    have B123 := B119.all k122 id
    have B124 := B120.all k122 id
    have B125 := B71.all k122 id
    have K126 := K60.trans k122 (fun _ _ x => x.elim)
    refine wl_v (.int .i64 (costF (clB 1048576 a) (clB 1048576 b))) rfl rfl (y_asg rfl rfl ⟨rfl, rfl⟩) ?_
    refine wl_nil fun F127 hF128 => ?_
    have s129 : F127 3 = .pointer (some ⟨p1, 0, none⟩) := (hF128 3).trans s74
    have s130 : F127 4 = .pointer (some ⟨p9, 0, none⟩) := (hF128 4).trans s75
    have s131 : F127 5 = .pointer (some ⟨p19, 0, none⟩) := (hF128 5).trans s76
    have s132 : F127 7 = .bool true := (hF128 7).trans s77
    have s133 : F127 63 = undef := (hF128 63).trans s78
    have s134 : F127 9 = .int .i64 (costF (clB 1048576 a) (clB 1048576 b)) := (hF128 9).trans rfl
    clear hF128
    refine then_normal ?_
    refine wq_seq ?_
    refine wq_said [some 32, some 33, some 34, some 35, some 36, some 37, some 38, some 39, some 40, some 41, some 42, some 43, some 44, some 45, some 46, some 47, some 48, some 49, some 50, some 51, some 52, some 53, some 54, some 55, some 56, some 57, some 58, some 59, some 60, some 61, some 62, some 6] [Pd.eq (.bool true), Pd.eq (.bool true), Pd.eq (.int .i64 (costF (clB 1048576 a) (clB 1048576 b))), Pd.eq (blkV (clB 1048576 b)), Pd.eq (blkV (clB 1048576 a)), Pd.eq (.int .i64 (costF (clB 1048576 b) (clB 1048576 a))), Pd.eq (.bool true), Pd.eq (.bool true), Pd.eq (.bool true), Pd.eq (.int .i64 (costF (clB 1048576 a) (clB 1048576 b))), Pd.eq (.bool (decide ((costF (clB 1048576 a) (clB 1048576 b)) = (0)))), Pd.eq (blkV (clB 1048576 a)), Pd.eq (blkV (clB 1048576 b)), Pd.eq (.bool (sameB (clB 1048576 a) (clB 1048576 b))), Pd.eq (.bool true), Pd.eq (.bool true), Pd.eq (.bool true), Pd.eq (.int .i64 (costF (clB 1048576 a) (clB 1048576 b))), Pd.eq (blkV (clB 1048576 a)), Pd.eq (blkV (c)), Pd.eq (.int .i64 (costF (clB 1048576 a) (c))), Pd.eq (blkV (c)), Pd.eq (blkV (clB 1048576 b)), Pd.eq (.int .i64 (costF (c) (clB 1048576 b))), Pd.eq (.int .i64 ((costF (clB 1048576 a) (c)) + (costF (c) (clB 1048576 b)))), Pd.eq (.bool true), Pd.eq (.bool true), Pd.eq (.bool true), Pd.eq (.int .i64 (costF (clB 1048576 a) (clB 1048576 b))), Pd.eq (.bool true), Pd.eq (.bool true), Pd.eq (.bool true)] (by kernel_rfl) (by kernel_rfl) ?_ ?_
    · refine stepsF_cons ?_ ?_
      · refine StepF.one rfl fun F_ w_ hR hout hD => ?_
        exact (y_mov rfl ((hout 7 rfl (by decide)).trans s132) ⟨rfl, Kept.refl _ _⟩)
      refine stepsF_cons ?_ ?_
      · refine StepF.one rfl fun F_ w_ hR hout hD => ?_
        have g32 : F_ 32 = .bool true := hD.get 0 rfl rfl rfl
        exact (y_mov rfl g32 ⟨rfl, Kept.refl _ _⟩)
      refine stepsF_cons ?_ ?_
      · refine StepF.when 1 true 33 rfl rfl fun F_ w_ hR hout hD => ?_
        have g33 : F_ 33 = .bool true := hD.get 0 rfl rfl rfl
        exact ⟨g33, (y_mov rfl ((hout 9 rfl (by decide)).trans s134) ⟨rfl, Kept.refl _ _⟩)⟩
      refine stepsF_cons ?_ ?_
      · refine StepF.when 1 true 33 rfl rfl fun F_ w_ hR hout hD => ?_
        have g33 : F_ 33 = .bool true := hD.get 0 rfl rfl rfl
        exact ⟨g33, (y_load_blk blkT_arr rfl ((hout 4 rfl (by decide)).trans s130) (B124.all hR id) ⟨rfl, Kept.refl _ _⟩)⟩
      refine stepsF_cons ?_ ?_
      · refine StepF.when 1 true 33 rfl rfl fun F_ w_ hR hout hD => ?_
        have g33 : F_ 33 = .bool true := hD.get 0 rfl rfl rfl
        exact ⟨g33, (y_load_blk blkT_arr rfl ((hout 3 rfl (by decide)).trans s129) (B123.all hR id) ⟨rfl, Kept.refl _ _⟩)⟩
      refine stepsF_cons ?_ ?_
      · refine StepF.when 1 true 33 rfl rfl fun F_ w_ hR hout hD => ?_
        have g33 : F_ 33 = .bool true := hD.get 2 rfl rfl rfl
        have g35 : F_ 35 = blkV (clB 1048576 b) := hD.get 0 rfl rfl rfl
        have g36 : F_ 36 = blkV (clB 1048576 a) := hD.get 1 rfl rfl rfl
        exact ⟨g33, (y_cs rfl rfl rfl (fun _ _ => by kernel_rfl) (ev_func _) (vsC g35 (vsC g36 vsN)) (il_cost (clB 1048576 b) (clB 1048576 a)  _   ) (fun e_ w_ h_ => ⟨_, h_.1, rfl, h_.2⟩))⟩
      refine stepsF_cons ?_ ?_
      · refine StepF.when 1 true 33 rfl rfl fun F_ w_ hR hout hD => ?_
        have g33 : F_ 33 = .bool true := hD.get 2 rfl rfl rfl
        have g34 : F_ 34 = .int .i64 (costF (clB 1048576 a) (clB 1048576 b)) := hD.get 0 rfl rfl rfl
        have g37 : F_ 37 = .int .i64 (costF (clB 1048576 b) (clB 1048576 a)) := hD.get 1 rfl rfl rfl
        exact ⟨g33, (y_eqlI rfl g34 g37 (decide_eq_true h1.out) ⟨rfl, Kept.refl _ _⟩)⟩
      refine stepsF_cons ?_ ?_
      · refine StepF.one rfl fun F_ w_ hR hout hD => ?_
        have g33 : F_ 33 = .bool true := hD.get 0 rfl rfl rfl
        have g38 : F_ 38 = .bool true := hD.get 1 rfl rfl rfl
        exact (y_pickT rfl g33 g38 ⟨rfl, Kept.refl _ _⟩)
      refine stepsF_cons ?_ ?_
      · refine StepF.one rfl fun F_ w_ hR hout hD => ?_
        have g39 : F_ 39 = .bool true := hD.get 0 rfl rfl rfl
        exact (y_mov rfl g39 ⟨rfl, Kept.refl _ _⟩)
      refine stepsF_cons ?_ ?_
      · refine StepF.when 8 true 40 rfl rfl fun F_ w_ hR hout hD => ?_
        have g40 : F_ 40 = .bool true := hD.get 0 rfl rfl rfl
        exact ⟨g40, (y_mov rfl ((hout 9 rfl (by decide)).trans s134) ⟨rfl, Kept.refl _ _⟩)⟩
      refine stepsF_cons ?_ ?_
      · refine StepF.when 8 true 40 rfl rfl fun F_ w_ hR hout hD => ?_
        have g40 : F_ 40 = .bool true := hD.get 1 rfl rfl rfl
        have g41 : F_ 41 = .int .i64 (costF (clB 1048576 a) (clB 1048576 b)) := hD.get 0 rfl rfl rfl
        exact ⟨g40, (y_eqlI rfl g41 rfl rfl ⟨rfl, Kept.refl _ _⟩)⟩
      refine stepsF_cons ?_ ?_
      · refine StepF.when 8 true 40 rfl rfl fun F_ w_ hR hout hD => ?_
        have g40 : F_ 40 = .bool true := hD.get 0 rfl rfl rfl
        exact ⟨g40, (y_load_blk blkT_arr rfl ((hout 3 rfl (by decide)).trans s129) (B123.all hR id) ⟨rfl, Kept.refl _ _⟩)⟩
      refine stepsF_cons ?_ ?_
      · refine StepF.when 8 true 40 rfl rfl fun F_ w_ hR hout hD => ?_
        have g40 : F_ 40 = .bool true := hD.get 0 rfl rfl rfl
        exact ⟨g40, (y_load_blk blkT_arr rfl ((hout 4 rfl (by decide)).trans s130) (B124.all hR id) ⟨rfl, Kept.refl _ _⟩)⟩
      refine stepsF_cons ?_ ?_
      · refine StepF.when 8 true 40 rfl rfl fun F_ w_ hR hout hD => ?_
        have g40 : F_ 40 = .bool true := hD.get 2 rfl rfl rfl
        have g43 : F_ 43 = blkV (clB 1048576 a) := hD.get 0 rfl rfl rfl
        have g44 : F_ 44 = blkV (clB 1048576 b) := hD.get 1 rfl rfl rfl
        exact ⟨g40, (y_sameA rfl g43 g44 rfl ⟨rfl, Kept.refl _ _⟩)⟩
      refine stepsF_cons ?_ ?_
      · refine StepF.when 8 true 40 rfl rfl fun F_ w_ hR hout hD => ?_
        have g40 : F_ 40 = .bool true := hD.get 2 rfl rfl rfl
        have g42 : F_ 42 = .bool (decide ((costF (clB 1048576 a) (clB 1048576 b)) = (0))) := hD.get 0 rfl rfl rfl
        have g45 : F_ 45 = .bool (sameB (clB 1048576 a) (clB 1048576 b)) := hD.get 1 rfl rfl rfl
        exact ⟨g40, (y_eqlB rfl g42 g45 Try.underlying4 (cost_same a b) ⟨rfl, Kept.refl _ _⟩)⟩
      refine stepsF_cons ?_ ?_
      · refine StepF.one rfl fun F_ w_ hR hout hD => ?_
        have g40 : F_ 40 = .bool true := hD.get 0 rfl rfl rfl
        have g46 : F_ 46 = .bool true := hD.get 1 rfl rfl rfl
        exact (y_pickT rfl g40 g46 ⟨rfl, Kept.refl _ _⟩)
      refine stepsF_cons ?_ ?_
      · refine StepF.one rfl fun F_ w_ hR hout hD => ?_
        have g47 : F_ 47 = .bool true := hD.get 0 rfl rfl rfl
        exact (y_mov rfl g47 ⟨rfl, Kept.refl _ _⟩)
      refine stepsF_cons ?_ ?_
      · refine StepF.when 16 true 48 rfl rfl fun F_ w_ hR hout hD => ?_
        have g48 : F_ 48 = .bool true := hD.get 0 rfl rfl rfl
        exact ⟨g48, (y_mov rfl ((hout 9 rfl (by decide)).trans s134) ⟨rfl, Kept.refl _ _⟩)⟩
      refine stepsF_cons ?_ ?_
      · refine StepF.when 16 true 48 rfl rfl fun F_ w_ hR hout hD => ?_
        have g48 : F_ 48 = .bool true := hD.get 0 rfl rfl rfl
        exact ⟨g48, (y_load_blk blkT_arr rfl ((hout 3 rfl (by decide)).trans s129) (B123.all hR id) ⟨rfl, Kept.refl _ _⟩)⟩
      refine stepsF_cons ?_ ?_
      · refine StepF.when 16 true 48 rfl rfl fun F_ w_ hR hout hD => ?_
        have g48 : F_ 48 = .bool true := hD.get 0 rfl rfl rfl
        exact ⟨g48, (y_load_blk blkT_arr rfl ((hout 5 rfl (by decide)).trans s131) (B125.all hR id) ⟨rfl, Kept.refl _ _⟩)⟩
      refine stepsF_cons ?_ ?_
      · refine StepF.when 16 true 48 rfl rfl fun F_ w_ hR hout hD => ?_
        have g48 : F_ 48 = .bool true := hD.get 2 rfl rfl rfl
        have g50 : F_ 50 = blkV (clB 1048576 a) := hD.get 0 rfl rfl rfl
        have g51 : F_ 51 = blkV (c) := hD.get 1 rfl rfl rfl
        exact ⟨g48, (y_cs rfl rfl rfl (fun _ _ => by kernel_rfl) (ev_func _) (vsC g50 (vsC g51 vsN)) (il_cost (clB 1048576 a) (c)  _   ) (fun e_ w_ h_ => ⟨_, h_.1, rfl, h_.2⟩))⟩
      refine stepsF_cons ?_ ?_
      · refine StepF.when 16 true 48 rfl rfl fun F_ w_ hR hout hD => ?_
        have g48 : F_ 48 = .bool true := hD.get 0 rfl rfl rfl
        exact ⟨g48, (y_load_blk blkT_arr rfl ((hout 5 rfl (by decide)).trans s131) (B125.all hR id) ⟨rfl, Kept.refl _ _⟩)⟩
      refine stepsF_cons ?_ ?_
      · refine StepF.when 16 true 48 rfl rfl fun F_ w_ hR hout hD => ?_
        have g48 : F_ 48 = .bool true := hD.get 0 rfl rfl rfl
        exact ⟨g48, (y_load_blk blkT_arr rfl ((hout 4 rfl (by decide)).trans s130) (B124.all hR id) ⟨rfl, Kept.refl _ _⟩)⟩
      refine stepsF_cons ?_ ?_
      · refine StepF.when 16 true 48 rfl rfl fun F_ w_ hR hout hD => ?_
        have g48 : F_ 48 = .bool true := hD.get 3 rfl rfl rfl
        have g53 : F_ 53 = blkV (c) := hD.get 0 rfl rfl rfl
        have g54 : F_ 54 = blkV (clB 1048576 b) := hD.get 1 rfl rfl rfl
        exact ⟨g48, (y_cs rfl rfl rfl (fun _ _ => by kernel_rfl) (ev_func _) (vsC g53 (vsC g54 vsN)) (il_cost (c) (clB 1048576 b)  _   ) (fun e_ w_ h_ => ⟨_, h_.1, rfl, h_.2⟩))⟩
      refine stepsF_cons ?_ ?_
      · refine StepF.when 16 true 48 rfl rfl fun F_ w_ hR hout hD => ?_
        have g48 : F_ 48 = .bool true := hD.get 2 rfl rfl rfl
        have g52 : F_ 52 = .int .i64 (costF (clB 1048576 a) (c)) := hD.get 0 rfl rfl rfl
        have g55 : F_ 55 = .int .i64 (costF (c) (clB 1048576 b)) := hD.get 1 rfl rfl rfl
        exact ⟨g48, (y_add rfl g52 g55 (i64_i rfl (by omega)) ⟨rfl, Kept.refl _ _⟩)⟩
      refine stepsF_cons ?_ ?_
      · refine StepF.when 16 true 48 rfl rfl fun F_ w_ hR hout hD => ?_
        have g48 : F_ 48 = .bool true := hD.get 2 rfl rfl rfl
        have g49 : F_ 49 = .int .i64 (costF (clB 1048576 a) (clB 1048576 b)) := hD.get 0 rfl rfl rfl
        have g56 : F_ 56 = .int .i64 ((costF (clB 1048576 a) (c)) + (costF (c) (clB 1048576 b))) := hD.get 1 rfl rfl rfl
        exact ⟨g48, (y_leq rfl g49 g56 (decide_eq_true h2.out) ⟨rfl, Kept.refl _ _⟩)⟩
      refine stepsF_cons ?_ ?_
      · refine StepF.one rfl fun F_ w_ hR hout hD => ?_
        have g48 : F_ 48 = .bool true := hD.get 0 rfl rfl rfl
        have g57 : F_ 57 = .bool true := hD.get 1 rfl rfl rfl
        exact (y_pickT rfl g48 g57 ⟨rfl, Kept.refl _ _⟩)
      refine stepsF_cons ?_ ?_
      · refine StepF.one rfl fun F_ w_ hR hout hD => ?_
        have g58 : F_ 58 = .bool true := hD.get 0 rfl rfl rfl
        exact (y_mov rfl g58 ⟨rfl, Kept.refl _ _⟩)
      refine stepsF_cons ?_ ?_
      · refine StepF.when 27 true 59 rfl rfl fun F_ w_ hR hout hD => ?_
        have g59 : F_ 59 = .bool true := hD.get 0 rfl rfl rfl
        exact ⟨g59, (y_mov rfl ((hout 9 rfl (by decide)).trans s134) ⟨rfl, Kept.refl _ _⟩)⟩
      refine stepsF_cons ?_ ?_
      · refine StepF.when 27 true 59 rfl rfl fun F_ w_ hR hout hD => ?_
        have g59 : F_ 59 = .bool true := hD.get 1 rfl rfl rfl
        have g60 : F_ 60 = .int .i64 (costF (clB 1048576 a) (clB 1048576 b)) := hD.get 0 rfl rfl rfl
        exact ⟨g59, (y_geq rfl g60 rfl (decide_eq_true h5.out.1) ⟨rfl, Kept.refl _ _⟩)⟩
      refine stepsF_cons ?_ ?_
      · refine StepF.one rfl fun F_ w_ hR hout hD => ?_
        have g59 : F_ 59 = .bool true := hD.get 0 rfl rfl rfl
        have g61 : F_ 61 = .bool true := hD.get 1 rfl rfl rfl
        exact (y_pickT rfl g59 g61 ⟨rfl, Kept.refl _ _⟩)
      refine stepsF_cons ?_ ?_
      · refine StepF.one rfl fun F_ w_ hR hout hD => ?_
        have g62 : F_ 62 = .bool true := hD.get 0 rfl rfl rfl
        exact (y_asg rfl g62 ⟨rfl, Kept.refl _ _⟩)
      exact stepsF_nil
    intro v135 F136 w137 k138 G139 hF140
    have B142 := B123.all k138 id
    have B143 := B124.all k138 id
    have B144 := B125.all k138 id
    have K145 := K126.trans k138 (fun _ _ x => x.elim)
    have s146 : F136 63 = undef := (hF140 63).trans s133
    have s147 : F136 6 = .bool true := (hF140 6).trans (G139 31 (by decide))
    clear G139 hF140
    refine then_normal ?_
    refine wq_ret ?_
    exact end_tmp (v := .bool true) s146 rfl rfl s147 ⟨rfl, K145⟩
end Go.Proofs.Ytdggilbgjijfmaa
namespace Go.Proofs.Ytdggilbgjijfmaa
open Go.ChangeShapes Go.WideShapes Go.ChangeAt Go.RowKit

section
variable {H : Type} {enc : TypeId × Value → H} {P : Program} {w : World} {base : Nat} {spare : Nat → Bool} {held : Bool}

/-- The number at a place. -/
def intAt (cs : List Value) (i : Nat) : Int := match cs[i]? with
  | some (.int _ z) => z
  | _ => 0

theorem cells_ints {t e : TypeId} {n fuel : Nat} {k : IntKind} {cs : List Value} {x : DataW H × List MemPlace} (ht : P.underlying t = some (.array n e)) (he : P.underlying e = some (.int k)) (hce : P.cellsOf e = 1) (hct : P.cellsOf t = n)
    (h : DataW.trod enc P w base spare held fuel t cs = some x) : cs.length = n ∧ ∀ i, i < n → cs[i]? = some (.int k (intAt cs i)) ∧ (Lit.int k (intAt cs i)).wf = true := by
  obtain ⟨xs, m, _, _, hl, hn, hel⟩ := DataW.trod_array ht h
  refine ⟨by rw [hl, hct], fun i hi => ?_⟩
  have h1 := hel i hi
  rw [hce, Nat.mul_one, List.getElem?_eq_getElem (by omega)] at h1
  obtain ⟨z, hz, _, hw⟩ := DataW.trod_int he h1
  have h2 : cs[i]? = some (.int k z) := by
    have := congrArg (·[0]?) hz
    simpa [List.getElem?_take, List.getElem?_drop] using this
  have h3 : intAt cs i = z := by unfold intAt; rw [h2]
  rw [h3]; exact ⟨h2, hw⟩

theorem arr_open {r : Reach} {b0 : Nat} {t e : TypeId} {n : Nat} {v : Value} {d : DataW H} {ps : List MemPlace} (ht : P.underlying t = some (.array n e)) (he : P.underlying e = some (.int .i64)) (hce : P.cellsOf e = 1) (hct : P.cellsOf t = n)
    (hval : Value.okWide P w r b0 t v) (h : DataW.Trod enc P w base spare held t v d ps) : ∃ b : Nat → Int, v = .agg (arrL n b).toArray ∧ ∀ i, i < n → -9223372036854775808 ≤ b i ∧ b i ≤ 9223372036854775807 := by
  obtain ⟨cs, rfl, _, _⟩ : ∃ cs, v = .agg cs ∧ cs.size = P.cellsOf t ∧ Row.okWide P w r b0 t cs := by simpa [Value.okWide, ht] using hval
  obtain ⟨fuel, hf⟩ := h
  obtain ⟨hl, hc⟩ := cells_ints ht he hce hct (cs := cs.toList) hf
  refine ⟨intAt cs.toList, ?_, fun i hi => ?_⟩
  · congr 1
    apply Array.ext'
    apply List.ext_getElem?
    intro i
    by_cases hi : i < n
    · rw [(hc i hi).1]; exact (arrL_at hi).symm
    · rw [List.getElem?_eq_none (by omega), List.getElem?_eq_none (by simp [arrL_length]; omega)]
  · have := bounds_i64 (hc i hi).2
    omega
end
end Go.Proofs.Ytdggilbgjijfmaa
