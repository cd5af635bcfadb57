/- What MotionTells reaches of my texts, part 7. -/
import Derived.Test.YtceoidglhakanaaMotionTellsF
namespace Go.Proofs.Ytceoidglhakanaa
open Go.RowKit
def fillL (A s m : Nat) : List Nat := List.replicate m s ++ List.replicate (A - m) 0
theorem fill_length {A s m : Nat} (h : m ≤ A) : (fillL A s m).length = A := by unfold fillL; simp; omega
theorem fill_start {A s pw : Nat} {l : List Nat} (h : l = List.replicate A 0) : fillL A s (0 * pw) = l := by rw [h]; unfold fillL; simp
theorem fill_done {A s : Nat} {l : List Nat} (h : l = List.replicate A s) : l = fillL A s A := by rw [h]; unfold fillL; simp
theorem fill_next {A s a pw y : Nat} (hp : pw ≤ a) :
    fillL A s ((y + 1) * pw) = (fillL A s (y * pw)).take ((((y : Nat) : Int)) * (((pw : Nat) : Int))).toNat ++ ((List.replicate a s).take ((((((y : Nat) : Int)) * (((pw : Nat) : Int))) + (((pw : Nat) : Int))).toNat - ((((y : Nat) : Int)) * (((pw : Nat) : Int))).toNat) ++ (fillL A s (y * pw)).drop (((((y : Nat) : Int)) * (((pw : Nat) : Int))).toNat + min ((((((y : Nat) : Int)) * (((pw : Nat) : Int))) + (((pw : Nat) : Int))).toNat - ((((y : Nat) : Int)) * (((pw : Nat) : Int))).toNat) (List.replicate a s).length)) := by
  have e1 : ((((y : Nat) : Int)) * (((pw : Nat) : Int))).toNat = y * pw := by rw [← Int.natCast_mul, Int.toNat_natCast]
  have e2 : (((((y : Nat) : Int)) * (((pw : Nat) : Int))) + (((pw : Nat) : Int))).toNat = y * pw + pw := by rw [← Int.natCast_mul, ← Int.natCast_add, Int.toNat_natCast]
  rw [e1, e2, show y * pw + pw - y * pw = pw by omega, List.length_replicate, show min pw a = pw by omega, List.take_replicate, show min pw a = pw by omega, Nat.succ_mul]
  unfold fillL
  rw [List.take_append_of_le_length (by simp), List.take_of_length_le (by simp), List.drop_append]
  simp only [List.length_replicate, List.drop_replicate]
  rw [show y * pw - (y * pw + pw) = 0 by omega, show y * pw + pw - y * pw = pw by omega, show A - y * pw - pw = A - (y * pw + pw) by omega, List.replicate_zero, List.nil_append, ← List.append_assoc, List.replicate_append_replicate]
theorem new_planes {w h : Int} (s : Nat) (hsw : sideB w = true) (hsh : sideB h = true) {a b : Nat} (ha : (a : Int) = w) (hb : (b : Int) = h) : (newF w h s).p0 = List.replicate (b * a) s ∧ (newF w h s).p1 = List.replicate (b / 2 * (a / 2)) s ∧ (newF w h s).p2 = List.replicate (b / 2 * (a / 2)) s := by
  have h1 := (sideB_iff _).1 hsw
  have h2 := (sideB_iff _).1 hsh
  subst ha; subst hb
  rw [newF_yes s hsw hsh]
  have e0 : ((a : Int) * (b : Int)).toNat = b * a := by rw [← Int.natCast_mul, Int.toNat_natCast, Nat.mul_comm]
  have e1 : ((a : Int) * (b : Int) / 4).toNat = b / 2 * (a / 2) := by
    rw [← quarter h1.2.2 h2.2.2 (by omega) (by omega), tdiv2 (by omega), tdiv2 (by omega), show (a : Int) / 2 = ((a / 2 : Nat) : Int) by omega, show (b : Int) / 2 = ((b / 2 : Nat) : Int) by omega, ← Int.natCast_mul, Int.toNat_natCast, Nat.mul_comm]
  exact ⟨congrArg (List.replicate · s) e0, congrArg (List.replicate · s) e1, congrArg (List.replicate · s) e1⟩
theorem size_as {w h : Int} (hsw : sideB w = true) (hsh : sideB h = true) {g : FD} (hW : g.W = w) (hH : g.H = h) (h0 : g.p0.length = (newF w h 0).p0.length) (h1 : g.p1.length = (newF w h 0).p1.length) (h2 : g.p2.length = (newF w h 0).p2.length) (k : Nat) (hk : k ≤ 2) {a b : Nat} (ha : (a : Int) = w) (hb : (b : Int) = h) : sizeF g ((k : Nat) : Int) = (((pn2 a (a / 2) k : Nat) : Int), ((pn2 b (b / 2) k : Nat) : Int)) := by
  have hn := new_ok 0 hsw hsh
  have hg : okF g := ok_of hn (by rw [hW, (new_side 0 hsw hsh).1]) (by rw [hH, (new_side 0 hsw hsh).2]) h0 h1 h2
  have s1 := (sideB_iff _).1 hsw
  have s2 := (sideB_iff _).1 hsh
  cases k with
  | zero => show sizeF g 0 = _; rw [sizeF_first hg rfl, hW, hH, ← ha, ← hb]; rfl
  | succ k =>
    rw [sizeF_other hg (by omega) (by omega) (by omega), hW, hH, tdiv2 (by omega), tdiv2 (by omega)]
    simp only [pn2]
    congr 1 <;> omega
theorem size_fst {w h : Int} (hsw : sideB w = true) (hsh : sideB h = true) {g : FD} (hW : g.W = w) (hH : g.H = h) (h0 : g.p0.length = (newF w h 0).p0.length) (h1 : g.p1.length = (newF w h 0).p1.length) (h2 : g.p2.length = (newF w h 0).p2.length) (k : Nat) (hk : k ≤ 2) {a b : Nat} (ha : (a : Int) = w) (hb : (b : Int) = h) : (sizeF g ((k : Nat) : Int)).1 = ((pn2 a (a / 2) k : Nat) : Int) := by rw [size_as hsw hsh hW hH h0 h1 h2 k hk ha hb]
theorem size_snd {w h : Int} (hsw : sideB w = true) (hsh : sideB h = true) {g : FD} (hW : g.W = w) (hH : g.H = h) (h0 : g.p0.length = (newF w h 0).p0.length) (h1 : g.p1.length = (newF w h 0).p1.length) (h2 : g.p2.length = (newF w h 0).p2.length) (k : Nat) (hk : k ≤ 2) {a b : Nat} (ha : (a : Int) = w) (hb : (b : Int) = h) : (sizeF g ((k : Nat) : Int)).2 = ((pn2 b (b / 2) k : Nat) : Int) := by rw [size_as hsw hsh hW hH h0 h1 h2 k hk ha hb]
theorem row_fact {y pw ph : Nat} (h : y < ph) (hp : pw ≤ 64) (hh : ph ≤ 64) : y * pw + pw ≤ ph * pw ∧ 0 ≤ ((y : Nat) : Int) * ((pw : Nat) : Int) ∧ ((y : Nat) : Int) * ((pw : Nat) : Int) ≤ 4096 ∧ ((y : Nat) : Int) * ((pw : Nat) : Int) + ((pw : Nat) : Int) ≤ ((ph * pw : Nat) : Int) := by
  have h1 : (y + 1) * pw ≤ ph * pw := Nat.mul_le_mul_right _ h
  rw [Nat.succ_mul] at h1
  have h2 : y * pw ≤ 64 * 64 := Nat.mul_le_mul (by omega) hp
  rw [← Int.natCast_mul]
  omega
set_option maxHeartbeats 4000000 in
set_option maxRecDepth 100000 in
theorem pl_new (w h : Int) (s : Nat) (w0 : World) (hs : s < 256) :
    Calls Try.prog 24 #[.int .i64 (w), .int .i64 (h), .int .u8 (((s : Nat) : Int))] w0 fun e w' => ∃ (v1 : Value) (T1 : Nat → Prop) (v2 : Value) (T2 : Nat → Prop) (v3 : Value) (T3 : Nat → Prop), e = .returned (.tuple #[.agg #[.int .i64 ((newF w h s).W), .int .i64 ((newF w h s).H), v1, v2, v3], .int .i64 (newE w h)]) ∧ Kept (fun _ => False) w0 w' ∧ (Owb w' T1 v1 ((newF w h s).p0) ∧ Grew w0 noB T1) ∧ (Owb w' T2 v2 ((newF w h s).p1) ∧ Grew w0 noB T2) ∧ (Owb w' T3 v3 ((newF w h s).p2) ∧ Grew w0 noB T3) ∧ Apart T1 T2 ∧ Apart T1 T3 ∧ Apart T2 T3 := by
  refine calls_wq (args := [.int .i64 (w), .int .i64 (h), .int .u8 (((s : Nat) : Int))]) 55 Try.func24 rfl rfl (Nat.le_of_ble_eq_true rfl) ?_
  have K0 := Kept.refl (fun _ => False) w0
  refine wq_seq ?_
  refine wq_region ?_
  refine wl_alloc_stc (n := 5) (vs := [.int .i64 (0), .int .i64 (0), .slice none 0 0, .slice none 0 0, .slice none 0 0]) rfl rfl rfl (by kernel_rfl) fun p1 w2 B4 g5 k3 => ?_
  have gr6 : Grew w0 noB (onB p1) := Grew.new K0 g5
  have K7 := K0.trans k3 (fun _ _ x => x.elim)
  refine wl_v (.int .i64 (0)) rfl rfl (y_asg rfl rfl ⟨rfl, rfl⟩) ?_
  refine wl_nil fun F8 hF9 => ?_
  have s10 : F8 0 = .int .i64 (w) := (hF9 0).trans rfl
  have s11 : F8 1 = .int .i64 (h) := (hF9 1).trans rfl
  have s12 : F8 2 = .int .u8 (((s : Nat) : Int)) := (hF9 2).trans rfl
  have s13 : F8 55 = undef := (hF9 55).trans rfl
  have s14 : F8 6 = .pointer (some ⟨p1, 0, none⟩) := (hF9 6).trans rfl
  clear hF9
  refine then_normal ?_
  refine wq_seq ?_
  refine wq_seq ?_
  rcases Bool.eq_false_or_eq_true (sideB (w)) with d15 | d15
  · skip
    rcases Bool.eq_false_or_eq_true (sideB (h)) with d16 | d16
    · skip
      refine wq_region ?_
      refine wl_v (.int .i64 (w)) rfl rfl (y_mov rfl s10 ⟨rfl, rfl⟩) ?_
      refine wl_call (R := fun v_ w_ => v_ = .bool true ∧ Kept (fun _ => False) w2 w_) rfl rfl (y_cs rfl rfl rfl (fun _ _ => by kernel_rfl) (ev_func _) (vsC rfl vsN) (ps_side (w)  _   ) (fun e_ w_ h_ => ⟨_, h_.1, (congrArg Value.bool d15), h_.2⟩)) ?_
      rintro _ w17 ⟨rfl, k18⟩
      have B19 := B4.all k18 id
      have K20 := K7.trans k18 (fun _ _ x => x.elim)
      refine wl_v (.bool false) rfl rfl (y_not rfl rfl rfl ⟨rfl, rfl⟩) ?_
      refine wl_v (.bool false) rfl rfl (y_mov rfl rfl ⟨rfl, rfl⟩) ?_
      refine wl_vw (.int .i64 (h)) 3 false 17 rfl rfl rfl rfl rfl (y_mov rfl s11 ⟨rfl, rfl⟩) ?_
      refine wl_callw (R := fun v_ w_ => v_ = .bool true ∧ Kept (fun _ => False) w17 w_) 3 false 17 rfl rfl rfl rfl rfl (y_cs rfl rfl rfl (fun _ _ => by kernel_rfl) (ev_func _) (vsC rfl vsN) (ps_side (h)  _   ) (fun e_ w_ h_ => ⟨_, h_.1, (congrArg Value.bool d16), h_.2⟩)) ?_
      rintro _ w21 ⟨rfl, k22⟩
      have B23 := B19.all k22 id
      have K24 := K20.trans k22 (fun _ _ x => x.elim)
      refine wl_vw (.bool false) 3 false 17 rfl rfl rfl rfl rfl (y_not rfl rfl rfl ⟨rfl, rfl⟩) ?_
      refine wl_v (.bool false) rfl rfl (y_pickF rfl rfl rfl ⟨rfl, rfl⟩) ?_
      refine wl_nil fun F25 hF26 => ?_
      have s27 : F25 0 = .int .i64 (w) := (hF26 0).trans s10
      have s28 : F25 1 = .int .i64 (h) := (hF26 1).trans s11
      have s29 : F25 2 = .int .u8 (((s : Nat) : Int)) := (hF26 2).trans s12
      have s30 : F25 55 = undef := (hF26 55).trans s13
      have s31 : F25 6 = .pointer (some ⟨p1, 0, none⟩) := (hF26 6).trans s14
      have s32 : F25 21 = .bool false := (hF26 21).trans rfl
      clear hF26
      refine then_normal ?_
      refine wq_cond (t := false) s32 (fun e => by cases e) (fun _ => ?_)
      refine wq_skip ?_
      refine then_normal ?_
      refine wq_seq ?_
      have hsw : sideB w = true := by assumption
      have hsh : sideB h = true := by assumption
      have hws := (sideB_iff _).1 hsw
      have hhs := (sideB_iff _).1 hsh
      obtain ⟨a, ha⟩ : ∃ n : Nat, (n : Int) = w := ⟨w.toNat, by omega⟩
      obtain ⟨b, hb⟩ : ∃ n : Nat, (n : Int) = h := ⟨h.toNat, by omega⟩
      refine wq_region ?_
      refine wl_v (.int .i64 (w)) rfl rfl (y_mov rfl s27 ⟨rfl, rfl⟩) ?_
      refine wl_v (.int .i64 (h)) rfl rfl (y_mov rfl s28 ⟨rfl, rfl⟩) ?_
      refine wl_call (R := fun v_ w_ => ∃ (v33 : Value) (T38 : Nat → Prop) (v34 : Value) (T39 : Nat → Prop) (v35 : Value) (T40 : Nat → Prop), .agg #[.int .i64 ((newF (w) (h) 0).W), .int .i64 ((newF (w) (h) 0).H), v33, v34, v35] = v_ ∧ Kept (fun _ => False) w21 w_ ∧ (Owb w_ T38 v33 ((newF (w) (h) 0).p0) ∧ Grew w21 noB T38) ∧ (Owb w_ T39 v34 ((newF (w) (h) 0).p1) ∧ Grew w21 noB T39) ∧ (Owb w_ T40 v35 ((newF (w) (h) 0).p2) ∧ Grew w21 noB T40) ∧ Apart T38 T39 ∧ Apart T38 T40 ∧ Apart T39 T40) rfl rfl (y_cs rfl rfl rfl (fun _ _ => by kernel_rfl) (ev_func _) (vsC rfl (vsC rfl vsN)) (ps_blank (w) (h)  _ hsw hsh  ) (fun e_ w_ h_ => by obtain ⟨v33_, T38_, v34_, T39_, v35_, T40_, he_, hr_⟩ := h_; exact ⟨_, he_, v33_, T38_, v34_, T39_, v35_, T40_, rfl, hr_⟩)) ?_
      rintro _ w36 ⟨v33, T38, v34, T39, v35, T40, rfl, k37, ⟨B41, g44⟩, ⟨B42, g45⟩, ⟨B43, g46⟩, ap47, ap48, ap49⟩
      have B50 := B23.all k37 id
      have K51 := K24.trans k37 (fun _ _ x => x.elim)
      have gr52 : Grew w0 noB (T38) := Grew.new K24 g44
      have ap53 : Apart (T38) (onB p1) := Apart.new g44 (onB_live (B23).lt)
      have gr54 : Grew w0 noB (T39) := Grew.new K24 g45
      have ap55 : Apart (T39) (onB p1) := Apart.new g45 (onB_live (B23).lt)
      have gr56 : Grew w0 noB (T40) := Grew.new K24 g46
      have ap57 : Apart (T40) (onB p1) := Apart.new g46 (onB_live (B23).lt)
      refine wl_alloc_stc (n := 5) (vs := [.int .i64 (0), .int .i64 (0), .slice none 0 0, .slice none 0 0, .slice none 0 0]) rfl rfl rfl (by kernel_rfl) fun p58 w59 B61 g62 k60 => ?_
      have gr63 : Grew w0 noB (onB p58) := Grew.new K51 g62
      have ap64 : Apart (onB p58) (onB p1) := Apart.new g62 (onB_live (B50).lt)
      have ap65 : Apart (onB p58) (T38) := Apart.new g62 (B41).live
      have ap66 : Apart (onB p58) (T39) := Apart.new g62 (B42).live
      have ap67 : Apart (onB p58) (T40) := Apart.new g62 (B43).live
      have B68 := B50.all k60 id
      have B69 := B41.all k60 Apart.none
      have B70 := B42.all k60 Apart.none
      have B71 := B43.all k60 Apart.none
      have K72 := K51.trans k60 (fun _ _ x => x.elim)
      refine wl_store_stc (us := [.int .i64 ((newF (w) (h) 0).W), .int .i64 ((newF (w) (h) 0).H), v33, v34, v35]) stcT_frame rfl rfl rfl rfl rfl B61 rfl (oneI rfl (oneI rfl (oneI (B69).one (oneI (B70).one (oneI (B71).one oneN))))) fun w73 B74 k75 => ?_
      have B76 := B68.all k75 (fun x => (((ap64).symm) p1 rfl x))
      have B77 := B69.all k75 (fun i h x => (((ap65).symm) i h x))
      have B78 := B70.all k75 (fun i h x => (((ap66).symm) i h x))
      have B79 := B71.all k75 (fun i h x => (((ap67).symm) i h x))
      have K80 := K72.trans k75 (Grew.ok (S := fun _ => False) gr63 noB_le)
      refine wl_nil fun F81 hF82 => ?_
      have s83 : F81 0 = .int .i64 (w) := (hF82 0).trans s27
      have s84 : F81 2 = .int .u8 (((s : Nat) : Int)) := (hF82 2).trans s29
      have s85 : F81 55 = undef := (hF82 55).trans s30
      have s86 : F81 6 = .pointer (some ⟨p1, 0, none⟩) := (hF82 6).trans s31
      have s87 : F81 8 = .pointer (some ⟨p58, 0, none⟩) := (hF82 8).trans rfl
      clear hF82
      refine then_normal ?_
      refine wq_seq ?_
      have s88 : F81 0 = .int .i64 (((a : Nat) : Int)) := s83.trans (congrArg (Value.int .i64) (ha.symm))
      refine wq_region ?_
      refine wl_v (.int .u8 (((s : Nat) : Int))) rfl rfl (y_mov rfl s84 ⟨rfl, rfl⟩) ?_
      refine wl_builtB1 (n := s) rfl rfl rfl rfl (by omega) (by omega) fun v89 w90 T94 B92 g93 k91 => ?_
      have gr95 : Grew w0 noB (T94) := Grew.new K80 g93
      have ap96 : Apart (T94) (onB p1) := Apart.new g93 (onB_live (B76).lt)
      have ap97 : Apart (T94) (T38) := Apart.new g93 (B77).live
      have ap98 : Apart (T94) (T39) := Apart.new g93 (B78).live
      have ap99 : Apart (T94) (T40) := Apart.new g93 (B79).live
      have ap100 : Apart (T94) (onB p58) := Apart.new g93 (onB_live (B74).lt)
      have B101 := B76.all k91 id
      have B102 := B77.all k91 Apart.none
      have B103 := B78.all k91 Apart.none
      have B104 := B79.all k91 Apart.none
      have B105 := B74.all k91 id
      have K106 := K80.trans k91 (fun _ _ x => x.elim)
      refine wl_v (.int .i64 (((a : Nat) : Int))) rfl rfl (y_mov rfl s88 ⟨rfl, rfl⟩) ?_
      refine wl_call (R := fun v_ w_ => ∃ (v107 : Value) (T110 : Nat → Prop), v107 = v_ ∧ Kept (fun _ => False) w90 w_ ∧ (Byt w_ T110 v107 (List.replicate (a) (s)) ∧ Grew w90 noB T110)) rfl rfl (y_cs rfl rfl rfl (fun _ _ => by kernel_rfl) (ev_func _) (vsC rfl (vsC rfl vsN)) (ps_repeat (v89) ([s]) (s) (a) (T94) _ rfl rfl (by omega) (by omega) (B92).byt ) (fun e_ w_ h_ => by obtain ⟨v107_, T110_, he_, hr_⟩ := h_; exact ⟨_, he_, v107_, T110_, rfl, hr_⟩)) ?_
      rintro _ w108 ⟨v107, T110, rfl, k109, ⟨B111, g112⟩⟩
      have B113 := B101.all k109 id
      have B114 := B102.all k109 Apart.none
      have B115 := B103.all k109 Apart.none
      have B116 := B104.all k109 Apart.none
      have B117 := B105.all k109 id
      have B118 := B92.all k109 Apart.none
      have K119 := K106.trans k109 (fun _ _ x => x.elim)
      have gr120 : Grew w0 noB (T110) := Grew.new K106 g112
      have ap121 : Apart (T110) (onB p1) := Apart.new g112 (onB_live (B101).lt)
      have ap122 : Apart (T110) (T38) := Apart.new g112 (B102).live
      have ap123 : Apart (T110) (T39) := Apart.new g112 (B103).live
      have ap124 : Apart (T110) (T40) := Apart.new g112 (B104).live
      have ap125 : Apart (T110) (onB p58) := Apart.new g112 (onB_live (B105).lt)
      have ap126 : Apart (T110) (T94) := Apart.new g112 (B92).live
      refine wl_v (v107) rfl rfl (y_asg rfl rfl ⟨rfl, rfl⟩) ?_
      refine wl_nil fun F127 hF128 => ?_
      have s129 : F127 55 = undef := (hF128 55).trans s85
      have s130 : F127 6 = .pointer (some ⟨p1, 0, none⟩) := (hF128 6).trans s86
      have s131 : F127 8 = .pointer (some ⟨p58, 0, none⟩) := (hF128 8).trans s87
      have s132 : F127 9 = v107 := (hF128 9).trans rfl
      clear hF128
      refine then_normal ?_
      refine wq_seq ?_
      refine wq_seq ?_
      refine wq_region ?_
      refine wl_v (.int .i64 (0)) rfl rfl (y_mov rfl rfl ⟨rfl, rfl⟩) ?_
      refine wl_nil fun F133 hF134 => ?_
      have s135 : F133 55 = undef := (hF134 55).trans s129
      have s136 : F133 6 = .pointer (some ⟨p1, 0, none⟩) := (hF134 6).trans s130
      have s137 : F133 8 = .pointer (some ⟨p58, 0, none⟩) := (hF134 8).trans s131
      have s138 : F133 9 = v107 := (hF134 9).trans s132
      have s139 : F133 30 = .int .i64 (0) := (hF134 30).trans rfl
      clear hF134
      refine then_normal ?_
      refine wq_block ?_
      refine wq_rounds 4 ?_
      refine wqr_step ?_
      refine wq_seq ?_
      refine wq_region ?_
      refine wl_v (.bool true) rfl rfl (y_lss rfl s139 rfl rfl ⟨rfl, rfl⟩) ?_
      refine wl_nil fun F140 hF141 => ?_
      have s142 : F140 55 = undef := (hF141 55).trans s135
      have s143 : F140 6 = .pointer (some ⟨p1, 0, none⟩) := (hF141 6).trans s136
      have s144 : F140 8 = .pointer (some ⟨p58, 0, none⟩) := (hF141 8).trans s137
      have s145 : F140 9 = v107 := (hF141 9).trans s138
      have s146 : F140 30 = .int .i64 (0) := (hF141 30).trans s139
      have s147 : F140 31 = .bool true := (hF141 31).trans rfl
      clear hF141
      refine then_normal ?_
      refine wq_seq ?_
      refine wq_cond (t := true) s147 (fun _ => ?_) (fun e => by cases e)
      refine wq_skip ?_
      refine then_normal ?_
      refine wq_seq ?_
      refine wq_block ?_
      refine wq_seq ?_
      refine wq_region ?_
      refine wl_v (.int .i64 (0)) rfl rfl (y_mov rfl s146 ⟨rfl, rfl⟩) ?_
      refine wl_v (.int .i64 (0)) rfl rfl (y_asg rfl rfl ⟨rfl, rfl⟩) ?_
      refine wl_nil fun F148 hF149 => ?_
      have s150 : F148 55 = undef := (hF149 55).trans s142
      have s151 : F148 6 = .pointer (some ⟨p1, 0, none⟩) := (hF149 6).trans s143
      have s152 : F148 8 = .pointer (some ⟨p58, 0, none⟩) := (hF149 8).trans s144
      have s153 : F148 9 = v107 := (hF149 9).trans s145
      have s154 : F148 30 = .int .i64 (0) := (hF149 30).trans s146
      have s155 : F148 10 = .int .i64 (0) := (hF149 10).trans rfl
      clear hF149
      refine then_normal ?_
      refine wq_seq ?_
      refine wq_region ?_
      refine wl_v (.agg #[.int .i64 ((newF (w) (h) 0).W), .int .i64 ((newF (w) (h) 0).H), v33, v34, v35]) rfl rfl (y_load_stc stcT_frame rfl s152 B117 ⟨rfl, rfl⟩) ?_
      refine wl_v (.int .i64 (0)) rfl rfl (y_mov rfl s155 ⟨rfl, rfl⟩) ?_
      refine wl_call (R := fun v_ w_ => v_ = .tuple #[.int .i64 ((sizeF (newF (w) (h) 0) (0)).1), .int .i64 ((sizeF (newF (w) (h) 0) (0)).2)] ∧ Kept (fun _ => False) w108 w_) rfl rfl (y_cs rfl rfl rfl (fun _ _ => by kernel_rfl) (ev_func _) (vsC rfl (vsC rfl vsN)) (pl_size (0) (newF (w) (h) 0) (v33) (v34) (v35) (T38) (T39) (T40) _  (B114).byt (B115).byt (B116).byt ) (fun e_ w_ h_ => ⟨_, h_.1, rfl, h_.2⟩)) ?_
      rintro _ w156 ⟨rfl, k157⟩
      have B158 := B113.all k157 id
      have B159 := B114.all k157 Apart.none
      have B160 := B115.all k157 Apart.none
      have B161 := B116.all k157 Apart.none
      have B162 := B117.all k157 id
      have B163 := B118.all k157 Apart.none
      have B164 := B111.all k157 Apart.none
      have K165 := K119.trans k157 (fun _ _ x => x.elim)
      refine wl_v (.tuple #[.int .i64 ((sizeF (newF (w) (h) 0) (0)).1), .int .i64 ((sizeF (newF (w) (h) 0) (0)).2)]) rfl rfl (y_mov rfl rfl ⟨rfl, rfl⟩) ?_
      refine wl_v (.int .i64 ((sizeF (newF (w) (h) 0) (0)).1)) rfl rfl (y_ext rfl rfl rfl ⟨rfl, rfl⟩) ?_
      refine wl_v (.int .i64 ((sizeF (newF (w) (h) 0) (0)).2)) rfl rfl (y_ext rfl rfl rfl ⟨rfl, rfl⟩) ?_
      refine wl_v (.int .i64 ((sizeF (newF (w) (h) 0) (0)).1)) rfl rfl (y_asg rfl rfl ⟨rfl, rfl⟩) ?_
      refine wl_v (.int .i64 ((sizeF (newF (w) (h) 0) (0)).2)) rfl rfl (y_asg rfl rfl ⟨rfl, rfl⟩) ?_
      refine wl_nil fun F166 hF167 => ?_
      have s168 : F166 55 = undef := (hF167 55).trans s150
      have s169 : F166 6 = .pointer (some ⟨p1, 0, none⟩) := (hF167 6).trans s151
      have s170 : F166 8 = .pointer (some ⟨p58, 0, none⟩) := (hF167 8).trans s152
      have s171 : F166 9 = v107 := (hF167 9).trans s153
      have s172 : F166 30 = .int .i64 (0) := (hF167 30).trans s154
      have s173 : F166 10 = .int .i64 (0) := (hF167 10).trans s155
      have s174 : F166 11 = .int .i64 ((sizeF (newF (w) (h) 0) (0)).1) := (hF167 11).trans rfl
      have s175 : F166 12 = .int .i64 ((sizeF (newF (w) (h) 0) (0)).2) := (hF167 12).trans rfl
      clear hF167
      refine then_normal ?_
      refine wq_seq ?_
      obtain ⟨pw0, hpw0⟩ : ∃ q, q = pn2 a (a / 2) 0 := ⟨_, rfl⟩
      obtain ⟨ph0, hph0⟩ : ∃ q, q = pn2 b (b / 2) 0 := ⟨_, rfl⟩
      have hA0 : (newF w h 0).p0 = List.replicate (ph0 * pw0) 0 := by rw [hpw0, hph0]; first | exact (new_planes 0 hsw hsh ha hb).1 | exact (new_planes 0 hsw hsh ha hb).2.1 | exact (new_planes 0 hsw hsh ha hb).2.2
      have hE0 : (newF w h s).p0 = List.replicate (ph0 * pw0) s := by rw [hpw0, hph0]; first | exact (new_planes s hsw hsh ha hb).1 | exact (new_planes s hsw hsh ha hb).2.1 | exact (new_planes s hsw hsh ha hb).2.2
      have hB0 : pw0 ≤ a ∧ pw0 ≤ 64 ∧ ph0 ≤ 64 := by have e1 := pn2_le a (a / 2) 0; have e2 := pn2_le b (b / 2) 0; omega
      have s176 : F166 11 = .int .i64 (((pw0 : Nat) : Int)) := s174.trans (congrArg (Value.int .i64) (by rw [hpw0]; (refine size_fst hsw hsh ?_ ?_ ?_ ?_ ?_ 0 (by decide) ha hb <;> first | exact (new_side 0 hsw hsh).1 | exact (new_side 0 hsw hsh).2 | exact hl0 | exact hl1 | rfl)))
      have s177 : F166 12 = .int .i64 (((ph0 : Nat) : Int)) := s175.trans (congrArg (Value.int .i64) (by rw [hph0]; (refine size_snd hsw hsh ?_ ?_ ?_ ?_ ?_ 0 (by decide) ha hb <;> first | exact (new_side 0 hsw hsh).1 | exact (new_side 0 hsw hsh).2 | exact hl0 | exact hl1 | rfl)))
      refine wq_region ?_
      refine wl_v (.int .i64 (((ph0 : Nat) : Int))) rfl rfl (y_mov rfl s177 ⟨rfl, rfl⟩) ?_
      refine wl_v (.int .i64 (0)) rfl rfl (y_mov rfl rfl ⟨rfl, rfl⟩) ?_
      refine wl_nil fun F178 hF179 => ?_
      have s180 : F178 55 = undef := (hF179 55).trans s168
      have s181 : F178 6 = .pointer (some ⟨p1, 0, none⟩) := (hF179 6).trans s169
      have s182 : F178 8 = .pointer (some ⟨p58, 0, none⟩) := (hF179 8).trans s170
      have s183 : F178 9 = v107 := (hF179 9).trans s171
      have s184 : F178 30 = .int .i64 (0) := (hF179 30).trans s172
      have s185 : F178 10 = .int .i64 (0) := (hF179 10).trans s173
      have s186 : F178 11 = .int .i64 (((pw0 : Nat) : Int)) := (hF179 11).trans s176
      have s187 : F178 39 = .int .i64 (((ph0 : Nat) : Int)) := (hF179 39).trans rfl
      have s188 : F178 40 = .int .i64 (0) := (hF179 40).trans rfl
      clear hF179
      refine then_normal ?_
      refine wq_block ?_
      refine wq_loop (fun nn FF ww => ∃ (y : Nat), ∃ (T189 : Nat → Prop), (y ≤ ph0) ∧ nn = ph0 - y ∧ FF 6 = .pointer (some ⟨p1, 0, none⟩) ∧ FF 8 = .pointer (some ⟨p58, 0, none⟩) ∧ FF 9 = v107 ∧ FF 10 = .int .i64 (0) ∧ FF 11 = .int .i64 (((pw0 : Nat) : Int)) ∧ FF 30 = .int .i64 (0) ∧ FF 39 = .int .i64 (((ph0 : Nat) : Int)) ∧ FF 55 = undef ∧ FF 40 = .int .i64 (((y : Nat) : Int)) ∧ Kept (fun _ => False) w0 ww ∧ Stc ww p1 25 [.int .i64 (0), .int .i64 (0), .slice none 0 0, .slice none 0 0, .slice none 0 0] ∧ Owb ww (T189) v33 (fillL (ph0 * pw0) s (y * pw0)) ∧ Owb ww (T39) v34 ((newF (w) (h) 0).p1) ∧ Owb ww (T40) v35 ((newF (w) (h) 0).p2) ∧ Stc ww p58 25 [.int .i64 ((newF (w) (h) 0).W), .int .i64 ((newF (w) (h) 0).H), v33, v34, v35] ∧ Owb ww (T94) v89 ([s]) ∧ Byt ww (T110) v107 (List.replicate (a) (s)) ∧ Grew w0 (noB) T189 ∧ Apart (T189) (onB p1) ∧ Apart (T189) (T39) ∧ Apart (T189) (T40) ∧ Apart (T189) (onB p58) ∧ Apart (T189) (T94) ∧ Apart (T189) (T110)) (ph0 - (0)) ⟨0, T38, by omega, rfl, s181, s182, s183, s185, s186, s184, s187, s180, s188, K165, B158, Owb.of_eq (fill_start hA0) B159, B160, B161, B162, B163, B164, gr52, ap53, ap47, ap48, (ap65).symm, (ap97).symm, (ap122).symm⟩ ?_
      rintro n193 F190 w191 ⟨y, T189, i194, hn193, s195, s196, s197, s198, s199, s200, s201, s202, s203, K192, B204, B205, B206, B207, B208, B209, B210, gr211, ap212, ap213, ap214, ap215, ap216, ap217⟩
      refine wq_seq ?_
      refine wq_region ?_
      refine wl_v (.bool (decide ((((y : Nat) : Int)) < (((ph0 : Nat) : Int))))) rfl rfl (y_lss rfl s203 s201 rfl ⟨rfl, rfl⟩) ?_
      refine wl_nil fun F218 hF219 => ?_
      have s220 : F218 6 = .pointer (some ⟨p1, 0, none⟩) := (hF219 6).trans s195
      have s221 : F218 8 = .pointer (some ⟨p58, 0, none⟩) := (hF219 8).trans s196
      have s222 : F218 9 = v107 := (hF219 9).trans s197
      have s223 : F218 10 = .int .i64 (0) := (hF219 10).trans s198
      have s224 : F218 11 = .int .i64 (((pw0 : Nat) : Int)) := (hF219 11).trans s199
      have s225 : F218 30 = .int .i64 (0) := (hF219 30).trans s200
      have s226 : F218 39 = .int .i64 (((ph0 : Nat) : Int)) := (hF219 39).trans s201
      have s227 : F218 55 = undef := (hF219 55).trans s202
      have s228 : F218 40 = .int .i64 (((y : Nat) : Int)) := (hF219 40).trans s203
      have s229 : F218 41 = .bool (decide ((((y : Nat) : Int)) < (((ph0 : Nat) : Int)))) := (hF219 41).trans rfl
      clear hF219
      refine then_normal ?_
      refine wq_seq ?_
      refine wq_cond s229 (fun c230 => ?_) (fun c230 => ?_)
      · replace c230 := of_decide_eq_true c230
        refine wq_skip ?_
        refine then_normal ?_
        refine wq_seq ?_
        refine wq_block ?_
        refine wq_seq ?_
        refine wq_region ?_
        refine wl_v (.int .i64 (((y : Nat) : Int))) rfl rfl (y_mov rfl s228 ⟨rfl, rfl⟩) ?_
        refine wl_v (.int .i64 (((y : Nat) : Int))) rfl rfl (y_asg rfl rfl ⟨rfl, rfl⟩) ?_
        refine wl_nil fun F231 hF232 => ?_
        have s233 : F231 6 = .pointer (some ⟨p1, 0, none⟩) := (hF232 6).trans s220
        have s234 : F231 8 = .pointer (some ⟨p58, 0, none⟩) := (hF232 8).trans s221
        have s235 : F231 9 = v107 := (hF232 9).trans s222
        have s236 : F231 10 = .int .i64 (0) := (hF232 10).trans s223
        have s237 : F231 11 = .int .i64 (((pw0 : Nat) : Int)) := (hF232 11).trans s224
        have s238 : F231 30 = .int .i64 (0) := (hF232 30).trans s225
        have s239 : F231 39 = .int .i64 (((ph0 : Nat) : Int)) := (hF232 39).trans s226
        have s240 : F231 55 = undef := (hF232 55).trans s227
        have s241 : F231 40 = .int .i64 (((y : Nat) : Int)) := (hF232 40).trans s228
        have s242 : F231 13 = .int .i64 (((y : Nat) : Int)) := (hF232 13).trans rfl
        clear hF232
        refine then_normal ?_
        have hz := row_fact (y := y) (pw := pw0) (ph := ph0) (by omega) hB0.2.1 hB0.2.2
        have hfl : (fillL (ph0 * pw0) s (y * pw0)).length = ph0 * pw0 := fill_length (by omega)
        refine wq_region ?_
        refine wl_v (.int .i64 (0)) rfl rfl (y_mov rfl s236 ⟨rfl, rfl⟩) ?_
        refine wl_v (.pointer (some ⟨p58, 2, none⟩)) rfl rfl (y_fieldR (n := 3) rfl s234 Try.underlying25 rfl (by kernel_rfl) (by decide) rfl ⟨rfl, rfl⟩) ?_
        refine wl_v (.pointer (some ⟨p58, 2, none⟩)) rfl rfl (y_atR (0) (s := 1) rfl rfl rfl (by omega) Try.underlying23 (by omega) (by kernel_rfl) (by omega) ⟨rfl, rfl⟩) ?_
        refine wl_v (v33) rfl rfl (y_ld_stc rfl rfl Try.underlying22 B208 rfl rfl ⟨rfl, rfl⟩) ?_
        refine wl_v (.int .i64 (((pw0 : Nat) : Int))) rfl rfl (y_mov rfl s237 ⟨rfl, rfl⟩) ?_
        refine wl_v (.int .i64 (((y : Nat) : Int))) rfl rfl (y_mov rfl s242 ⟨rfl, rfl⟩) ?_
        refine wl_call (R := fun v_ w_ => v_ = subV (v33) (((((y : Nat) : Int)) * (((pw0 : Nat) : Int))).toNat) (((((y : Nat) : Int)) * (((pw0 : Nat) : Int)) + (((pw0 : Nat) : Int))).toNat) (((((y : Nat) : Int)) * (((pw0 : Nat) : Int)) + (((pw0 : Nat) : Int))).toNat) ∧ Kept (fun _ => False) w191 w_) rfl rfl (y_cs rfl rfl rfl (fun _ _ => by kernel_rfl) (ev_func _) (vsC rfl (vsC rfl (vsC rfl vsN))) (ps_row (v33) (fillL (ph0 * pw0) s (y * pw0)) (((pw0 : Nat) : Int)) (((y : Nat) : Int)) (T189) _ (by omega) (by omega) (by rw [hfl]; exact hz.2.2.2) (by omega) (B205).byt ) (fun e_ w_ h_ => ⟨_, h_.1, rfl, h_.2⟩)) ?_
        rintro _ w243 ⟨rfl, k244⟩
        have B245 := B204.all k244 id
        have B246 := B205.all k244 Apart.none
        have B247 := B206.all k244 Apart.none
        have B248 := B207.all k244 Apart.none
        have B249 := B208.all k244 id
        have B250 := B209.all k244 Apart.none
        have B251 := B210.all k244 Apart.none
        have K252 := K192.trans k244 (fun _ _ x => x.elim)
        refine wl_v (v107) rfl rfl (y_mov rfl s235 ⟨rfl, rfl⟩) ?_
        refine wl_copyM rfl rfl rfl rfl rfl (part_sub (B246).byt (by omega)) rfl B246 B251 (by rw [hfl]; omega) fun w254 B256 k255 => ?_
        have B259 := B245.all k255 (fun x => (((ap212).symm) p1 rfl x))
        have B260 := B247.all k255 (fun i h x => (((ap213).symm) i h x))
        have B261 := B248.all k255 (fun i h x => (((ap214).symm) i h x))
        have B262 := B249.all k255 (fun x => (((ap215).symm) p58 rfl x))
        have B263 := B250.all k255 (fun i h x => (((ap216).symm) i h x))
        have B264 := B251.all k255 (fun i h x => (((ap217).symm) i h x))
        have K265 := K252.trans k255 (Grew.ok (S := fun _ => False) gr211 noB_le)
        refine wl_nil fun F266 hF267 => ?_
        have s268 : F266 6 = .pointer (some ⟨p1, 0, none⟩) := (hF267 6).trans s233
        have s269 : F266 8 = .pointer (some ⟨p58, 0, none⟩) := (hF267 8).trans s234
        have s270 : F266 9 = v107 := (hF267 9).trans s235
        have s271 : F266 10 = .int .i64 (0) := (hF267 10).trans s236
        have s272 : F266 11 = .int .i64 (((pw0 : Nat) : Int)) := (hF267 11).trans s237
        have s273 : F266 30 = .int .i64 (0) := (hF267 30).trans s238
        have s274 : F266 39 = .int .i64 (((ph0 : Nat) : Int)) := (hF267 39).trans s239
        have s275 : F266 55 = undef := (hF267 55).trans s240
        have s276 : F266 40 = .int .i64 (((y : Nat) : Int)) := (hF267 40).trans s241
        clear hF267
        refine in_normal ?_
        refine then_normal ?_
        refine wq_region ?_
        refine wl_v (.int .i64 (((y + 1 : Nat) : Int))) rfl rfl (y_add rfl s276 rfl (i64_n (by omega) (by omega)) ⟨rfl, rfl⟩) ?_
        refine wl_v (.int .i64 (((y + 1 : Nat) : Int))) rfl rfl (y_mov rfl rfl ⟨rfl, rfl⟩) ?_
        refine wl_nil fun F277 hF278 => ?_
        have s279 : F277 6 = .pointer (some ⟨p1, 0, none⟩) := (hF278 6).trans s268
        have s280 : F277 8 = .pointer (some ⟨p58, 0, none⟩) := (hF278 8).trans s269
        have s281 : F277 9 = v107 := (hF278 9).trans s270
        have s282 : F277 10 = .int .i64 (0) := (hF278 10).trans s271
        have s283 : F277 11 = .int .i64 (((pw0 : Nat) : Int)) := (hF278 11).trans s272
        have s284 : F277 30 = .int .i64 (0) := (hF278 30).trans s273
        have s285 : F277 39 = .int .i64 (((ph0 : Nat) : Int)) := (hF278 39).trans s274
        have s286 : F277 55 = undef := (hF278 55).trans s275
        have s287 : F277 40 = .int .i64 (((y + 1 : Nat) : Int)) := (hF278 40).trans rfl
        clear hF278
        exact then_normal ⟨(ph0 - (y + 1)), by omega, y + 1, T189, by omega, rfl, s279, s280, s281, s282, s283, s284, s285, s286, s287, K265, B259, Owb.of_eq (fill_next hB0.1) B256, B260, B261, B262, B263, B264, gr211, ap212, ap213, ap214, ap215, ap216, ap217⟩
      · replace c230 := of_decide_eq_false c230
        refine wq_exit ?_
        refine then_exit ?_
        refine then_exit ?_
        have l288 : ph0 = y := by omega
        subst l288
        have hl0 : (fillL (ph0 * pw0) s (ph0 * pw0)).length = (newF w h 0).p0.length := by rw [fill_length (Nat.le_refl _), hA0, List.length_replicate]
        refine in_here ?_
        refine in_normal ?_
        refine then_normal ?_
        refine wq_region ?_
        refine wl_v (.int .i64 (((1 : Nat) : Int))) rfl rfl (y_add rfl s225 rfl (i64_n (by omega) (by omega)) ⟨rfl, rfl⟩) ?_
        refine wl_v (.int .i64 (((1 : Nat) : Int))) rfl rfl (y_mov rfl rfl ⟨rfl, rfl⟩) ?_
        refine wl_nil fun F289 hF290 => ?_
        have s291 : F289 6 = .pointer (some ⟨p1, 0, none⟩) := (hF290 6).trans s220
        have s292 : F289 8 = .pointer (some ⟨p58, 0, none⟩) := (hF290 8).trans s221
        have s293 : F289 9 = v107 := (hF290 9).trans s222
        have s294 : F289 55 = undef := (hF290 55).trans s227
        have s295 : F289 30 = .int .i64 (((1 : Nat) : Int)) := (hF290 30).trans rfl
        clear hF290
        refine then_normal ?_
        refine wqr_step ?_
        refine wq_seq ?_
        refine wq_region ?_
        refine wl_v (.bool true) rfl rfl (y_lss rfl s295 rfl rfl ⟨rfl, rfl⟩) ?_
        refine wl_nil fun F296 hF297 => ?_
        have s298 : F296 6 = .pointer (some ⟨p1, 0, none⟩) := (hF297 6).trans s291
        have s299 : F296 8 = .pointer (some ⟨p58, 0, none⟩) := (hF297 8).trans s292
        have s300 : F296 9 = v107 := (hF297 9).trans s293
        have s301 : F296 55 = undef := (hF297 55).trans s294
        have s302 : F296 30 = .int .i64 (((1 : Nat) : Int)) := (hF297 30).trans s295
        have s303 : F296 31 = .bool true := (hF297 31).trans rfl
        clear hF297
        refine then_normal ?_
        refine wq_seq ?_
        refine wq_cond (t := true) s303 (fun _ => ?_) (fun e => by cases e)
        refine wq_skip ?_
        refine then_normal ?_
        refine wq_seq ?_
        refine wq_block ?_
        refine wq_seq ?_
        refine wq_region ?_
        refine wl_v (.int .i64 (((1 : Nat) : Int))) rfl rfl (y_mov rfl s302 ⟨rfl, rfl⟩) ?_
        refine wl_v (.int .i64 (((1 : Nat) : Int))) rfl rfl (y_asg rfl rfl ⟨rfl, rfl⟩) ?_
        refine wl_nil fun F304 hF305 => ?_
        have s306 : F304 6 = .pointer (some ⟨p1, 0, none⟩) := (hF305 6).trans s298
        have s307 : F304 8 = .pointer (some ⟨p58, 0, none⟩) := (hF305 8).trans s299
        have s308 : F304 9 = v107 := (hF305 9).trans s300
        have s309 : F304 55 = undef := (hF305 55).trans s301
        have s310 : F304 30 = .int .i64 (((1 : Nat) : Int)) := (hF305 30).trans s302
        have s311 : F304 10 = .int .i64 (((1 : Nat) : Int)) := (hF305 10).trans rfl
        clear hF305
        refine then_normal ?_
        refine wq_seq ?_
        refine wq_region ?_
        refine wl_v (.agg #[.int .i64 ((newF (w) (h) 0).W), .int .i64 ((newF (w) (h) 0).H), v33, v34, v35]) rfl rfl (y_load_stc stcT_frame rfl s307 B208 ⟨rfl, rfl⟩) ?_
        refine wl_v (.int .i64 (((1 : Nat) : Int))) rfl rfl (y_mov rfl s311 ⟨rfl, rfl⟩) ?_
        refine wl_call (R := fun v_ w_ => v_ = .tuple #[.int .i64 ((sizeF (FD.mk ((newF (w) (h) 0).W) ((newF (w) (h) 0).H) (fillL (ph0 * pw0) s (ph0 * pw0)) ((newF (w) (h) 0).p1) ((newF (w) (h) 0).p2)) (((1 : Nat) : Int))).1), .int .i64 ((sizeF (FD.mk ((newF (w) (h) 0).W) ((newF (w) (h) 0).H) (fillL (ph0 * pw0) s (ph0 * pw0)) ((newF (w) (h) 0).p1) ((newF (w) (h) 0).p2)) (((1 : Nat) : Int))).2)] ∧ Kept (fun _ => False) w191 w_) rfl rfl (y_cs rfl rfl rfl (fun _ _ => by kernel_rfl) (ev_func _) (vsC rfl (vsC rfl vsN)) (pl_size (((1 : Nat) : Int)) (FD.mk ((newF (w) (h) 0).W) ((newF (w) (h) 0).H) (fillL (ph0 * pw0) s (ph0 * pw0)) ((newF (w) (h) 0).p1) ((newF (w) (h) 0).p2)) (v33) (v34) (v35) (T189) (T39) (T40) _  (B205).byt (B206).byt (B207).byt ) (fun e_ w_ h_ => ⟨_, h_.1, rfl, h_.2⟩)) ?_
        rintro _ w312 ⟨rfl, k313⟩
        have B314 := B204.all k313 id
        have B315 := B205.all k313 Apart.none
        have B316 := B206.all k313 Apart.none
        have B317 := B207.all k313 Apart.none
        have B318 := B208.all k313 id
        have B319 := B209.all k313 Apart.none
        have B320 := B210.all k313 Apart.none
        have K321 := K192.trans k313 (fun _ _ x => x.elim)
        refine wl_v (.tuple #[.int .i64 ((sizeF (FD.mk ((newF (w) (h) 0).W) ((newF (w) (h) 0).H) (fillL (ph0 * pw0) s (ph0 * pw0)) ((newF (w) (h) 0).p1) ((newF (w) (h) 0).p2)) (((1 : Nat) : Int))).1), .int .i64 ((sizeF (FD.mk ((newF (w) (h) 0).W) ((newF (w) (h) 0).H) (fillL (ph0 * pw0) s (ph0 * pw0)) ((newF (w) (h) 0).p1) ((newF (w) (h) 0).p2)) (((1 : Nat) : Int))).2)]) rfl rfl (y_mov rfl rfl ⟨rfl, rfl⟩) ?_
        refine wl_v (.int .i64 ((sizeF (FD.mk ((newF (w) (h) 0).W) ((newF (w) (h) 0).H) (fillL (ph0 * pw0) s (ph0 * pw0)) ((newF (w) (h) 0).p1) ((newF (w) (h) 0).p2)) (((1 : Nat) : Int))).1)) rfl rfl (y_ext rfl rfl rfl ⟨rfl, rfl⟩) ?_
        refine wl_v (.int .i64 ((sizeF (FD.mk ((newF (w) (h) 0).W) ((newF (w) (h) 0).H) (fillL (ph0 * pw0) s (ph0 * pw0)) ((newF (w) (h) 0).p1) ((newF (w) (h) 0).p2)) (((1 : Nat) : Int))).2)) rfl rfl (y_ext rfl rfl rfl ⟨rfl, rfl⟩) ?_
        refine wl_v (.int .i64 ((sizeF (FD.mk ((newF (w) (h) 0).W) ((newF (w) (h) 0).H) (fillL (ph0 * pw0) s (ph0 * pw0)) ((newF (w) (h) 0).p1) ((newF (w) (h) 0).p2)) (((1 : Nat) : Int))).1)) rfl rfl (y_asg rfl rfl ⟨rfl, rfl⟩) ?_
        refine wl_v (.int .i64 ((sizeF (FD.mk ((newF (w) (h) 0).W) ((newF (w) (h) 0).H) (fillL (ph0 * pw0) s (ph0 * pw0)) ((newF (w) (h) 0).p1) ((newF (w) (h) 0).p2)) (((1 : Nat) : Int))).2)) rfl rfl (y_asg rfl rfl ⟨rfl, rfl⟩) ?_
        refine wl_nil fun F322 hF323 => ?_
        have s324 : F322 6 = .pointer (some ⟨p1, 0, none⟩) := (hF323 6).trans s306
        have s325 : F322 8 = .pointer (some ⟨p58, 0, none⟩) := (hF323 8).trans s307
        have s326 : F322 9 = v107 := (hF323 9).trans s308
        have s327 : F322 55 = undef := (hF323 55).trans s309
        have s328 : F322 30 = .int .i64 (((1 : Nat) : Int)) := (hF323 30).trans s310
        have s329 : F322 10 = .int .i64 (((1 : Nat) : Int)) := (hF323 10).trans s311
        have s330 : F322 11 = .int .i64 ((sizeF (FD.mk ((newF (w) (h) 0).W) ((newF (w) (h) 0).H) (fillL (ph0 * pw0) s (ph0 * pw0)) ((newF (w) (h) 0).p1) ((newF (w) (h) 0).p2)) (((1 : Nat) : Int))).1) := (hF323 11).trans rfl
        have s331 : F322 12 = .int .i64 ((sizeF (FD.mk ((newF (w) (h) 0).W) ((newF (w) (h) 0).H) (fillL (ph0 * pw0) s (ph0 * pw0)) ((newF (w) (h) 0).p1) ((newF (w) (h) 0).p2)) (((1 : Nat) : Int))).2) := (hF323 12).trans rfl
        clear hF323
        refine then_normal ?_
        refine wq_seq ?_
        obtain ⟨pw1, hpw1⟩ : ∃ q, q = pn2 a (a / 2) 1 := ⟨_, rfl⟩
        obtain ⟨ph1, hph1⟩ : ∃ q, q = pn2 b (b / 2) 1 := ⟨_, rfl⟩
        have hA1 : (newF w h 0).p1 = List.replicate (ph1 * pw1) 0 := by rw [hpw1, hph1]; first | exact (new_planes 0 hsw hsh ha hb).1 | exact (new_planes 0 hsw hsh ha hb).2.1 | exact (new_planes 0 hsw hsh ha hb).2.2
        have hE1 : (newF w h s).p1 = List.replicate (ph1 * pw1) s := by rw [hpw1, hph1]; first | exact (new_planes s hsw hsh ha hb).1 | exact (new_planes s hsw hsh ha hb).2.1 | exact (new_planes s hsw hsh ha hb).2.2
        have hB1 : pw1 ≤ a ∧ pw1 ≤ 64 ∧ ph1 ≤ 64 := by have e1 := pn2_le a (a / 2) 1; have e2 := pn2_le b (b / 2) 1; omega
        have s332 : F322 11 = .int .i64 (((pw1 : Nat) : Int)) := s330.trans (congrArg (Value.int .i64) (by rw [hpw1]; (refine size_fst hsw hsh ?_ ?_ ?_ ?_ ?_ 1 (by decide) ha hb <;> first | exact (new_side 0 hsw hsh).1 | exact (new_side 0 hsw hsh).2 | exact hl0 | exact hl1 | rfl)))
        have s333 : F322 12 = .int .i64 (((ph1 : Nat) : Int)) := s331.trans (congrArg (Value.int .i64) (by rw [hph1]; (refine size_snd hsw hsh ?_ ?_ ?_ ?_ ?_ 1 (by decide) ha hb <;> first | exact (new_side 0 hsw hsh).1 | exact (new_side 0 hsw hsh).2 | exact hl0 | exact hl1 | rfl)))
        refine wq_region ?_
        refine wl_v (.int .i64 (((ph1 : Nat) : Int))) rfl rfl (y_mov rfl s333 ⟨rfl, rfl⟩) ?_
        refine wl_v (.int .i64 (0)) rfl rfl (y_mov rfl rfl ⟨rfl, rfl⟩) ?_
        refine wl_nil fun F334 hF335 => ?_
        have s336 : F334 6 = .pointer (some ⟨p1, 0, none⟩) := (hF335 6).trans s324
        have s337 : F334 8 = .pointer (some ⟨p58, 0, none⟩) := (hF335 8).trans s325
        have s338 : F334 9 = v107 := (hF335 9).trans s326
        have s339 : F334 55 = undef := (hF335 55).trans s327
        have s340 : F334 30 = .int .i64 (((1 : Nat) : Int)) := (hF335 30).trans s328
        have s341 : F334 10 = .int .i64 (((1 : Nat) : Int)) := (hF335 10).trans s329
        have s342 : F334 11 = .int .i64 (((pw1 : Nat) : Int)) := (hF335 11).trans s332
        have s343 : F334 39 = .int .i64 (((ph1 : Nat) : Int)) := (hF335 39).trans rfl
        have s344 : F334 40 = .int .i64 (0) := (hF335 40).trans rfl
        clear hF335
        refine then_normal ?_
        refine wq_block ?_
        refine wq_loop (fun nn FF ww => ∃ (y : Nat), ∃ (T345 : Nat → Prop), (y ≤ ph1) ∧ nn = ph1 - y ∧ FF 6 = .pointer (some ⟨p1, 0, none⟩) ∧ FF 8 = .pointer (some ⟨p58, 0, none⟩) ∧ FF 9 = v107 ∧ FF 10 = .int .i64 (((1 : Nat) : Int)) ∧ FF 11 = .int .i64 (((pw1 : Nat) : Int)) ∧ FF 30 = .int .i64 (((1 : Nat) : Int)) ∧ FF 39 = .int .i64 (((ph1 : Nat) : Int)) ∧ FF 55 = undef ∧ FF 40 = .int .i64 (((y : Nat) : Int)) ∧ Kept (fun _ => False) w0 ww ∧ Stc ww p1 25 [.int .i64 (0), .int .i64 (0), .slice none 0 0, .slice none 0 0, .slice none 0 0] ∧ Owb ww (T189) v33 (fillL (ph0 * pw0) s (ph0 * pw0)) ∧ Owb ww (T345) v34 (fillL (ph1 * pw1) s (y * pw1)) ∧ Owb ww (T40) v35 ((newF (w) (h) 0).p2) ∧ Stc ww p58 25 [.int .i64 ((newF (w) (h) 0).W), .int .i64 ((newF (w) (h) 0).H), v33, v34, v35] ∧ Owb ww (T94) v89 ([s]) ∧ Byt ww (T110) v107 (List.replicate (a) (s)) ∧ Grew w0 (noB) T345 ∧ Apart (T345) (onB p1) ∧ Apart (T345) (T189) ∧ Apart (T345) (T40) ∧ Apart (T345) (onB p58) ∧ Apart (T345) (T94) ∧ Apart (T345) (T110)) (ph1 - (0)) ⟨0, T39, by omega, rfl, s336, s337, s338, s341, s342, s340, s343, s339, s344, K321, B314, B315, Owb.of_eq (fill_start hA1) B316, B317, B318, B319, B320, gr54, ap55, (ap213).symm, ap49, (ap66).symm, (ap98).symm, (ap123).symm⟩ ?_
        rintro n349 F346 w347 ⟨y, T345, i350, hn349, s351, s352, s353, s354, s355, s356, s357, s358, s359, K348, B360, B361, B362, B363, B364, B365, B366, gr367, ap368, ap369, ap370, ap371, ap372, ap373⟩
        refine wq_seq ?_
        refine wq_region ?_
        refine wl_v (.bool (decide ((((y : Nat) : Int)) < (((ph1 : Nat) : Int))))) rfl rfl (y_lss rfl s359 s357 rfl ⟨rfl, rfl⟩) ?_
        refine wl_nil fun F374 hF375 => ?_
        have s376 : F374 6 = .pointer (some ⟨p1, 0, none⟩) := (hF375 6).trans s351
        have s377 : F374 8 = .pointer (some ⟨p58, 0, none⟩) := (hF375 8).trans s352
        have s378 : F374 9 = v107 := (hF375 9).trans s353
        have s379 : F374 10 = .int .i64 (((1 : Nat) : Int)) := (hF375 10).trans s354
        have s380 : F374 11 = .int .i64 (((pw1 : Nat) : Int)) := (hF375 11).trans s355
        have s381 : F374 30 = .int .i64 (((1 : Nat) : Int)) := (hF375 30).trans s356
        have s382 : F374 39 = .int .i64 (((ph1 : Nat) : Int)) := (hF375 39).trans s357
        have s383 : F374 55 = undef := (hF375 55).trans s358
        have s384 : F374 40 = .int .i64 (((y : Nat) : Int)) := (hF375 40).trans s359
        have s385 : F374 41 = .bool (decide ((((y : Nat) : Int)) < (((ph1 : Nat) : Int)))) := (hF375 41).trans rfl
        clear hF375
        refine then_normal ?_
        refine wq_seq ?_
        refine wq_cond s385 (fun c386 => ?_) (fun c386 => ?_)
        · replace c386 := of_decide_eq_true c386
          refine wq_skip ?_
          refine then_normal ?_
          refine wq_seq ?_
          refine wq_block ?_
          refine wq_seq ?_
          refine wq_region ?_
          refine wl_v (.int .i64 (((y : Nat) : Int))) rfl rfl (y_mov rfl s384 ⟨rfl, rfl⟩) ?_
          refine wl_v (.int .i64 (((y : Nat) : Int))) rfl rfl (y_asg rfl rfl ⟨rfl, rfl⟩) ?_
          refine wl_nil fun F387 hF388 => ?_
          have s389 : F387 6 = .pointer (some ⟨p1, 0, none⟩) := (hF388 6).trans s376
          have s390 : F387 8 = .pointer (some ⟨p58, 0, none⟩) := (hF388 8).trans s377
          have s391 : F387 9 = v107 := (hF388 9).trans s378
          have s392 : F387 10 = .int .i64 (((1 : Nat) : Int)) := (hF388 10).trans s379
          have s393 : F387 11 = .int .i64 (((pw1 : Nat) : Int)) := (hF388 11).trans s380
          have s394 : F387 30 = .int .i64 (((1 : Nat) : Int)) := (hF388 30).trans s381
          have s395 : F387 39 = .int .i64 (((ph1 : Nat) : Int)) := (hF388 39).trans s382
          have s396 : F387 55 = undef := (hF388 55).trans s383
          have s397 : F387 40 = .int .i64 (((y : Nat) : Int)) := (hF388 40).trans s384
          have s398 : F387 13 = .int .i64 (((y : Nat) : Int)) := (hF388 13).trans rfl
          clear hF388
          refine then_normal ?_
          have hz := row_fact (y := y) (pw := pw1) (ph := ph1) (by omega) hB1.2.1 hB1.2.2
          have hfl : (fillL (ph1 * pw1) s (y * pw1)).length = ph1 * pw1 := fill_length (by omega)
          refine wq_region ?_
          refine wl_v (.int .i64 (((1 : Nat) : Int))) rfl rfl (y_mov rfl s392 ⟨rfl, rfl⟩) ?_
          refine wl_v (.pointer (some ⟨p58, 2, none⟩)) rfl rfl (y_fieldR (n := 3) rfl s390 Try.underlying25 rfl (by kernel_rfl) (by decide) rfl ⟨rfl, rfl⟩) ?_
          refine wl_v (.pointer (some ⟨p58, 3, none⟩)) rfl rfl (y_atR (1) (s := 1) rfl rfl rfl (by omega) Try.underlying23 (by omega) (by kernel_rfl) (by omega) ⟨rfl, rfl⟩) ?_
          refine wl_v (v34) rfl rfl (y_ld_stc rfl rfl Try.underlying22 B364 rfl rfl ⟨rfl, rfl⟩) ?_
          refine wl_v (.int .i64 (((pw1 : Nat) : Int))) rfl rfl (y_mov rfl s393 ⟨rfl, rfl⟩) ?_
          refine wl_v (.int .i64 (((y : Nat) : Int))) rfl rfl (y_mov rfl s398 ⟨rfl, rfl⟩) ?_
          refine wl_call (R := fun v_ w_ => v_ = subV (v34) (((((y : Nat) : Int)) * (((pw1 : Nat) : Int))).toNat) (((((y : Nat) : Int)) * (((pw1 : Nat) : Int)) + (((pw1 : Nat) : Int))).toNat) (((((y : Nat) : Int)) * (((pw1 : Nat) : Int)) + (((pw1 : Nat) : Int))).toNat) ∧ Kept (fun _ => False) w347 w_) rfl rfl (y_cs rfl rfl rfl (fun _ _ => by kernel_rfl) (ev_func _) (vsC rfl (vsC rfl (vsC rfl vsN))) (ps_row (v34) (fillL (ph1 * pw1) s (y * pw1)) (((pw1 : Nat) : Int)) (((y : Nat) : Int)) (T345) _ (by omega) (by omega) (by rw [hfl]; exact hz.2.2.2) (by omega) (B362).byt ) (fun e_ w_ h_ => ⟨_, h_.1, rfl, h_.2⟩)) ?_
          rintro _ w399 ⟨rfl, k400⟩
          have B401 := B360.all k400 id
          have B402 := B361.all k400 Apart.none
          have B403 := B362.all k400 Apart.none
          have B404 := B363.all k400 Apart.none
          have B405 := B364.all k400 id
          have B406 := B365.all k400 Apart.none
          have B407 := B366.all k400 Apart.none
          have K408 := K348.trans k400 (fun _ _ x => x.elim)
          refine wl_v (v107) rfl rfl (y_mov rfl s391 ⟨rfl, rfl⟩) ?_
          refine wl_copyM rfl rfl rfl rfl rfl (part_sub (B403).byt (by omega)) rfl B403 B407 (by rw [hfl]; omega) fun w410 B412 k411 => ?_
          have B415 := B401.all k411 (fun x => (((ap368).symm) p1 rfl x))
          have B416 := B402.all k411 (fun i h x => (((ap369).symm) i h x))
          have B417 := B404.all k411 (fun i h x => (((ap370).symm) i h x))
          have B418 := B405.all k411 (fun x => (((ap371).symm) p58 rfl x))
          have B419 := B406.all k411 (fun i h x => (((ap372).symm) i h x))
          have B420 := B407.all k411 (fun i h x => (((ap373).symm) i h x))
          have K421 := K408.trans k411 (Grew.ok (S := fun _ => False) gr367 noB_le)
          refine wl_nil fun F422 hF423 => ?_
          have s424 : F422 6 = .pointer (some ⟨p1, 0, none⟩) := (hF423 6).trans s389
          have s425 : F422 8 = .pointer (some ⟨p58, 0, none⟩) := (hF423 8).trans s390
          have s426 : F422 9 = v107 := (hF423 9).trans s391
          have s427 : F422 10 = .int .i64 (((1 : Nat) : Int)) := (hF423 10).trans s392
          have s428 : F422 11 = .int .i64 (((pw1 : Nat) : Int)) := (hF423 11).trans s393
          have s429 : F422 30 = .int .i64 (((1 : Nat) : Int)) := (hF423 30).trans s394
          have s430 : F422 39 = .int .i64 (((ph1 : Nat) : Int)) := (hF423 39).trans s395
          have s431 : F422 55 = undef := (hF423 55).trans s396
          have s432 : F422 40 = .int .i64 (((y : Nat) : Int)) := (hF423 40).trans s397
          clear hF423
          refine in_normal ?_
          refine then_normal ?_
          refine wq_region ?_
          refine wl_v (.int .i64 (((y + 1 : Nat) : Int))) rfl rfl (y_add rfl s432 rfl (i64_n (by omega) (by omega)) ⟨rfl, rfl⟩) ?_
          refine wl_v (.int .i64 (((y + 1 : Nat) : Int))) rfl rfl (y_mov rfl rfl ⟨rfl, rfl⟩) ?_
          refine wl_nil fun F433 hF434 => ?_
          have s435 : F433 6 = .pointer (some ⟨p1, 0, none⟩) := (hF434 6).trans s424
          have s436 : F433 8 = .pointer (some ⟨p58, 0, none⟩) := (hF434 8).trans s425
          have s437 : F433 9 = v107 := (hF434 9).trans s426
          have s438 : F433 10 = .int .i64 (((1 : Nat) : Int)) := (hF434 10).trans s427
          have s439 : F433 11 = .int .i64 (((pw1 : Nat) : Int)) := (hF434 11).trans s428
          have s440 : F433 30 = .int .i64 (((1 : Nat) : Int)) := (hF434 30).trans s429
          have s441 : F433 39 = .int .i64 (((ph1 : Nat) : Int)) := (hF434 39).trans s430
          have s442 : F433 55 = undef := (hF434 55).trans s431
          have s443 : F433 40 = .int .i64 (((y + 1 : Nat) : Int)) := (hF434 40).trans rfl
          clear hF434
          exact then_normal ⟨(ph1 - (y + 1)), by omega, y + 1, T345, by omega, rfl, s435, s436, s437, s438, s439, s440, s441, s442, s443, K421, B415, B416, Owb.of_eq (fill_next hB1.1) B412, B417, B418, B419, B420, gr367, ap368, ap369, ap370, ap371, ap372, ap373⟩
        · replace c386 := of_decide_eq_false c386
          refine wq_exit ?_
          refine then_exit ?_
          refine then_exit ?_
          have l444 : ph1 = y := by omega
          subst l444
          have hl1 : (fillL (ph1 * pw1) s (ph1 * pw1)).length = (newF w h 0).p1.length := by rw [fill_length (Nat.le_refl _), hA1, List.length_replicate]
          refine in_here ?_
          refine in_normal ?_
          refine then_normal ?_
          refine wq_region ?_
          refine wl_v (.int .i64 (((2 : Nat) : Int))) rfl rfl (y_add rfl s381 rfl (i64_n (by omega) (by omega)) ⟨rfl, rfl⟩) ?_
          refine wl_v (.int .i64 (((2 : Nat) : Int))) rfl rfl (y_mov rfl rfl ⟨rfl, rfl⟩) ?_
          refine wl_nil fun F445 hF446 => ?_
          have s447 : F445 6 = .pointer (some ⟨p1, 0, none⟩) := (hF446 6).trans s376
          have s448 : F445 8 = .pointer (some ⟨p58, 0, none⟩) := (hF446 8).trans s377
          have s449 : F445 9 = v107 := (hF446 9).trans s378
          have s450 : F445 55 = undef := (hF446 55).trans s383
          have s451 : F445 30 = .int .i64 (((2 : Nat) : Int)) := (hF446 30).trans rfl
          clear hF446
          refine then_normal ?_
          refine wqr_step ?_
          refine wq_seq ?_
          refine wq_region ?_
          refine wl_v (.bool true) rfl rfl (y_lss rfl s451 rfl rfl ⟨rfl, rfl⟩) ?_
          refine wl_nil fun F452 hF453 => ?_
          have s454 : F452 6 = .pointer (some ⟨p1, 0, none⟩) := (hF453 6).trans s447
          have s455 : F452 8 = .pointer (some ⟨p58, 0, none⟩) := (hF453 8).trans s448
          have s456 : F452 9 = v107 := (hF453 9).trans s449
          have s457 : F452 55 = undef := (hF453 55).trans s450
          have s458 : F452 30 = .int .i64 (((2 : Nat) : Int)) := (hF453 30).trans s451
          have s459 : F452 31 = .bool true := (hF453 31).trans rfl
          clear hF453
          refine then_normal ?_
          refine wq_seq ?_
          refine wq_cond (t := true) s459 (fun _ => ?_) (fun e => by cases e)
          refine wq_skip ?_
          refine then_normal ?_
          refine wq_seq ?_
          refine wq_block ?_
          refine wq_seq ?_
          refine wq_region ?_
          refine wl_v (.int .i64 (((2 : Nat) : Int))) rfl rfl (y_mov rfl s458 ⟨rfl, rfl⟩) ?_
          refine wl_v (.int .i64 (((2 : Nat) : Int))) rfl rfl (y_asg rfl rfl ⟨rfl, rfl⟩) ?_
          refine wl_nil fun F460 hF461 => ?_
          have s462 : F460 6 = .pointer (some ⟨p1, 0, none⟩) := (hF461 6).trans s454
          have s463 : F460 8 = .pointer (some ⟨p58, 0, none⟩) := (hF461 8).trans s455
          have s464 : F460 9 = v107 := (hF461 9).trans s456
          have s465 : F460 55 = undef := (hF461 55).trans s457
          have s466 : F460 30 = .int .i64 (((2 : Nat) : Int)) := (hF461 30).trans s458
          have s467 : F460 10 = .int .i64 (((2 : Nat) : Int)) := (hF461 10).trans rfl
          clear hF461
          refine then_normal ?_
          refine wq_seq ?_
          refine wq_region ?_
          refine wl_v (.agg #[.int .i64 ((newF (w) (h) 0).W), .int .i64 ((newF (w) (h) 0).H), v33, v34, v35]) rfl rfl (y_load_stc stcT_frame rfl s463 B364 ⟨rfl, rfl⟩) ?_
          refine wl_v (.int .i64 (((2 : Nat) : Int))) rfl rfl (y_mov rfl s467 ⟨rfl, rfl⟩) ?_
          refine wl_call (R := fun v_ w_ => v_ = .tuple #[.int .i64 ((sizeF (FD.mk ((newF (w) (h) 0).W) ((newF (w) (h) 0).H) (fillL (ph0 * pw0) s (ph0 * pw0)) (fillL (ph1 * pw1) s (ph1 * pw1)) ((newF (w) (h) 0).p2)) (((2 : Nat) : Int))).1), .int .i64 ((sizeF (FD.mk ((newF (w) (h) 0).W) ((newF (w) (h) 0).H) (fillL (ph0 * pw0) s (ph0 * pw0)) (fillL (ph1 * pw1) s (ph1 * pw1)) ((newF (w) (h) 0).p2)) (((2 : Nat) : Int))).2)] ∧ Kept (fun _ => False) w347 w_) rfl rfl (y_cs rfl rfl rfl (fun _ _ => by kernel_rfl) (ev_func _) (vsC rfl (vsC rfl vsN)) (pl_size (((2 : Nat) : Int)) (FD.mk ((newF (w) (h) 0).W) ((newF (w) (h) 0).H) (fillL (ph0 * pw0) s (ph0 * pw0)) (fillL (ph1 * pw1) s (ph1 * pw1)) ((newF (w) (h) 0).p2)) (v33) (v34) (v35) (T189) (T345) (T40) _  (B361).byt (B362).byt (B363).byt ) (fun e_ w_ h_ => ⟨_, h_.1, rfl, h_.2⟩)) ?_
          rintro _ w468 ⟨rfl, k469⟩
          have B470 := B360.all k469 id
          have B471 := B361.all k469 Apart.none
          have B472 := B362.all k469 Apart.none
          have B473 := B363.all k469 Apart.none
          have B474 := B364.all k469 id
          have B475 := B365.all k469 Apart.none
          have B476 := B366.all k469 Apart.none
          have K477 := K348.trans k469 (fun _ _ x => x.elim)
          refine wl_v (.tuple #[.int .i64 ((sizeF (FD.mk ((newF (w) (h) 0).W) ((newF (w) (h) 0).H) (fillL (ph0 * pw0) s (ph0 * pw0)) (fillL (ph1 * pw1) s (ph1 * pw1)) ((newF (w) (h) 0).p2)) (((2 : Nat) : Int))).1), .int .i64 ((sizeF (FD.mk ((newF (w) (h) 0).W) ((newF (w) (h) 0).H) (fillL (ph0 * pw0) s (ph0 * pw0)) (fillL (ph1 * pw1) s (ph1 * pw1)) ((newF (w) (h) 0).p2)) (((2 : Nat) : Int))).2)]) rfl rfl (y_mov rfl rfl ⟨rfl, rfl⟩) ?_
          refine wl_v (.int .i64 ((sizeF (FD.mk ((newF (w) (h) 0).W) ((newF (w) (h) 0).H) (fillL (ph0 * pw0) s (ph0 * pw0)) (fillL (ph1 * pw1) s (ph1 * pw1)) ((newF (w) (h) 0).p2)) (((2 : Nat) : Int))).1)) rfl rfl (y_ext rfl rfl rfl ⟨rfl, rfl⟩) ?_
          refine wl_v (.int .i64 ((sizeF (FD.mk ((newF (w) (h) 0).W) ((newF (w) (h) 0).H) (fillL (ph0 * pw0) s (ph0 * pw0)) (fillL (ph1 * pw1) s (ph1 * pw1)) ((newF (w) (h) 0).p2)) (((2 : Nat) : Int))).2)) rfl rfl (y_ext rfl rfl rfl ⟨rfl, rfl⟩) ?_
          refine wl_v (.int .i64 ((sizeF (FD.mk ((newF (w) (h) 0).W) ((newF (w) (h) 0).H) (fillL (ph0 * pw0) s (ph0 * pw0)) (fillL (ph1 * pw1) s (ph1 * pw1)) ((newF (w) (h) 0).p2)) (((2 : Nat) : Int))).1)) rfl rfl (y_asg rfl rfl ⟨rfl, rfl⟩) ?_
          refine wl_v (.int .i64 ((sizeF (FD.mk ((newF (w) (h) 0).W) ((newF (w) (h) 0).H) (fillL (ph0 * pw0) s (ph0 * pw0)) (fillL (ph1 * pw1) s (ph1 * pw1)) ((newF (w) (h) 0).p2)) (((2 : Nat) : Int))).2)) rfl rfl (y_asg rfl rfl ⟨rfl, rfl⟩) ?_
          refine wl_nil fun F478 hF479 => ?_
          have s480 : F478 6 = .pointer (some ⟨p1, 0, none⟩) := (hF479 6).trans s462
          have s481 : F478 8 = .pointer (some ⟨p58, 0, none⟩) := (hF479 8).trans s463
          have s482 : F478 9 = v107 := (hF479 9).trans s464
          have s483 : F478 55 = undef := (hF479 55).trans s465
          have s484 : F478 30 = .int .i64 (((2 : Nat) : Int)) := (hF479 30).trans s466
          have s485 : F478 10 = .int .i64 (((2 : Nat) : Int)) := (hF479 10).trans s467
          have s486 : F478 11 = .int .i64 ((sizeF (FD.mk ((newF (w) (h) 0).W) ((newF (w) (h) 0).H) (fillL (ph0 * pw0) s (ph0 * pw0)) (fillL (ph1 * pw1) s (ph1 * pw1)) ((newF (w) (h) 0).p2)) (((2 : Nat) : Int))).1) := (hF479 11).trans rfl
          have s487 : F478 12 = .int .i64 ((sizeF (FD.mk ((newF (w) (h) 0).W) ((newF (w) (h) 0).H) (fillL (ph0 * pw0) s (ph0 * pw0)) (fillL (ph1 * pw1) s (ph1 * pw1)) ((newF (w) (h) 0).p2)) (((2 : Nat) : Int))).2) := (hF479 12).trans rfl
          clear hF479
          refine then_normal ?_
          refine wq_seq ?_
          obtain ⟨pw2, hpw2⟩ : ∃ q, q = pn2 a (a / 2) 2 := ⟨_, rfl⟩
          obtain ⟨ph2, hph2⟩ : ∃ q, q = pn2 b (b / 2) 2 := ⟨_, rfl⟩
          have hA2 : (newF w h 0).p2 = List.replicate (ph2 * pw2) 0 := by rw [hpw2, hph2]; first | exact (new_planes 0 hsw hsh ha hb).1 | exact (new_planes 0 hsw hsh ha hb).2.1 | exact (new_planes 0 hsw hsh ha hb).2.2
          have hE2 : (newF w h s).p2 = List.replicate (ph2 * pw2) s := by rw [hpw2, hph2]; first | exact (new_planes s hsw hsh ha hb).1 | exact (new_planes s hsw hsh ha hb).2.1 | exact (new_planes s hsw hsh ha hb).2.2
          have hB2 : pw2 ≤ a ∧ pw2 ≤ 64 ∧ ph2 ≤ 64 := by have e1 := pn2_le a (a / 2) 2; have e2 := pn2_le b (b / 2) 2; omega
          have s488 : F478 11 = .int .i64 (((pw2 : Nat) : Int)) := s486.trans (congrArg (Value.int .i64) (by rw [hpw2]; (refine size_fst hsw hsh ?_ ?_ ?_ ?_ ?_ 2 (by decide) ha hb <;> first | exact (new_side 0 hsw hsh).1 | exact (new_side 0 hsw hsh).2 | exact hl0 | exact hl1 | rfl)))
          have s489 : F478 12 = .int .i64 (((ph2 : Nat) : Int)) := s487.trans (congrArg (Value.int .i64) (by rw [hph2]; (refine size_snd hsw hsh ?_ ?_ ?_ ?_ ?_ 2 (by decide) ha hb <;> first | exact (new_side 0 hsw hsh).1 | exact (new_side 0 hsw hsh).2 | exact hl0 | exact hl1 | rfl)))
          refine wq_region ?_
          refine wl_v (.int .i64 (((ph2 : Nat) : Int))) rfl rfl (y_mov rfl s489 ⟨rfl, rfl⟩) ?_
          refine wl_v (.int .i64 (0)) rfl rfl (y_mov rfl rfl ⟨rfl, rfl⟩) ?_
          refine wl_nil fun F490 hF491 => ?_
          have s492 : F490 6 = .pointer (some ⟨p1, 0, none⟩) := (hF491 6).trans s480
          have s493 : F490 8 = .pointer (some ⟨p58, 0, none⟩) := (hF491 8).trans s481
          have s494 : F490 9 = v107 := (hF491 9).trans s482
          have s495 : F490 55 = undef := (hF491 55).trans s483
          have s496 : F490 30 = .int .i64 (((2 : Nat) : Int)) := (hF491 30).trans s484
          have s497 : F490 10 = .int .i64 (((2 : Nat) : Int)) := (hF491 10).trans s485
          have s498 : F490 11 = .int .i64 (((pw2 : Nat) : Int)) := (hF491 11).trans s488
          have s499 : F490 39 = .int .i64 (((ph2 : Nat) : Int)) := (hF491 39).trans rfl
          have s500 : F490 40 = .int .i64 (0) := (hF491 40).trans rfl
          clear hF491
          refine then_normal ?_
          refine wq_block ?_
          refine wq_loop (fun nn FF ww => ∃ (y : Nat), ∃ (T501 : Nat → Prop), (y ≤ ph2) ∧ nn = ph2 - y ∧ FF 6 = .pointer (some ⟨p1, 0, none⟩) ∧ FF 8 = .pointer (some ⟨p58, 0, none⟩) ∧ FF 9 = v107 ∧ FF 10 = .int .i64 (((2 : Nat) : Int)) ∧ FF 11 = .int .i64 (((pw2 : Nat) : Int)) ∧ FF 30 = .int .i64 (((2 : Nat) : Int)) ∧ FF 39 = .int .i64 (((ph2 : Nat) : Int)) ∧ FF 55 = undef ∧ FF 40 = .int .i64 (((y : Nat) : Int)) ∧ Kept (fun _ => False) w0 ww ∧ Stc ww p1 25 [.int .i64 (0), .int .i64 (0), .slice none 0 0, .slice none 0 0, .slice none 0 0] ∧ Owb ww (T189) v33 (fillL (ph0 * pw0) s (ph0 * pw0)) ∧ Owb ww (T345) v34 (fillL (ph1 * pw1) s (ph1 * pw1)) ∧ Owb ww (T501) v35 (fillL (ph2 * pw2) s (y * pw2)) ∧ Stc ww p58 25 [.int .i64 ((newF (w) (h) 0).W), .int .i64 ((newF (w) (h) 0).H), v33, v34, v35] ∧ Owb ww (T94) v89 ([s]) ∧ Byt ww (T110) v107 (List.replicate (a) (s)) ∧ Grew w0 (noB) T501 ∧ Apart (T501) (onB p1) ∧ Apart (T501) (T189) ∧ Apart (T501) (T345) ∧ Apart (T501) (onB p58) ∧ Apart (T501) (T94) ∧ Apart (T501) (T110)) (ph2 - (0)) ⟨0, T40, by omega, rfl, s492, s493, s494, s497, s498, s496, s499, s495, s500, K477, B470, B471, B472, Owb.of_eq (fill_start hA2) B473, B474, B475, B476, gr56, ap57, (ap214).symm, (ap370).symm, (ap67).symm, (ap99).symm, (ap124).symm⟩ ?_
          rintro n505 F502 w503 ⟨y, T501, i506, hn505, s507, s508, s509, s510, s511, s512, s513, s514, s515, K504, B516, B517, B518, B519, B520, B521, B522, gr523, ap524, ap525, ap526, ap527, ap528, ap529⟩
          refine wq_seq ?_
          refine wq_region ?_
          refine wl_v (.bool (decide ((((y : Nat) : Int)) < (((ph2 : Nat) : Int))))) rfl rfl (y_lss rfl s515 s513 rfl ⟨rfl, rfl⟩) ?_
          refine wl_nil fun F530 hF531 => ?_
          have s532 : F530 6 = .pointer (some ⟨p1, 0, none⟩) := (hF531 6).trans s507
          have s533 : F530 8 = .pointer (some ⟨p58, 0, none⟩) := (hF531 8).trans s508
          have s534 : F530 9 = v107 := (hF531 9).trans s509
          have s535 : F530 10 = .int .i64 (((2 : Nat) : Int)) := (hF531 10).trans s510
          have s536 : F530 11 = .int .i64 (((pw2 : Nat) : Int)) := (hF531 11).trans s511
          have s537 : F530 30 = .int .i64 (((2 : Nat) : Int)) := (hF531 30).trans s512
          have s538 : F530 39 = .int .i64 (((ph2 : Nat) : Int)) := (hF531 39).trans s513
          have s539 : F530 55 = undef := (hF531 55).trans s514
          have s540 : F530 40 = .int .i64 (((y : Nat) : Int)) := (hF531 40).trans s515
          have s541 : F530 41 = .bool (decide ((((y : Nat) : Int)) < (((ph2 : Nat) : Int)))) := (hF531 41).trans rfl
          clear hF531
          refine then_normal ?_
          refine wq_seq ?_
          refine wq_cond s541 (fun c542 => ?_) (fun c542 => ?_)
          · replace c542 := of_decide_eq_true c542
            refine wq_skip ?_
            refine then_normal ?_
            refine wq_seq ?_
            refine wq_block ?_
            refine wq_seq ?_
            refine wq_region ?_
            refine wl_v (.int .i64 (((y : Nat) : Int))) rfl rfl (y_mov rfl s540 ⟨rfl, rfl⟩) ?_
            refine wl_v (.int .i64 (((y : Nat) : Int))) rfl rfl (y_asg rfl rfl ⟨rfl, rfl⟩) ?_
            refine wl_nil fun F543 hF544 => ?_
            have s545 : F543 6 = .pointer (some ⟨p1, 0, none⟩) := (hF544 6).trans s532
            have s546 : F543 8 = .pointer (some ⟨p58, 0, none⟩) := (hF544 8).trans s533
            have s547 : F543 9 = v107 := (hF544 9).trans s534
            have s548 : F543 10 = .int .i64 (((2 : Nat) : Int)) := (hF544 10).trans s535
            have s549 : F543 11 = .int .i64 (((pw2 : Nat) : Int)) := (hF544 11).trans s536
            have s550 : F543 30 = .int .i64 (((2 : Nat) : Int)) := (hF544 30).trans s537
            have s551 : F543 39 = .int .i64 (((ph2 : Nat) : Int)) := (hF544 39).trans s538
            have s552 : F543 55 = undef := (hF544 55).trans s539
            have s553 : F543 40 = .int .i64 (((y : Nat) : Int)) := (hF544 40).trans s540
            have s554 : F543 13 = .int .i64 (((y : Nat) : Int)) := (hF544 13).trans rfl
            clear hF544
            refine then_normal ?_
            have hz := row_fact (y := y) (pw := pw2) (ph := ph2) (by omega) hB2.2.1 hB2.2.2
            have hfl : (fillL (ph2 * pw2) s (y * pw2)).length = ph2 * pw2 := fill_length (by omega)
            refine wq_region ?_
            refine wl_v (.int .i64 (((2 : Nat) : Int))) rfl rfl (y_mov rfl s548 ⟨rfl, rfl⟩) ?_
            refine wl_v (.pointer (some ⟨p58, 2, none⟩)) rfl rfl (y_fieldR (n := 3) rfl s546 Try.underlying25 rfl (by kernel_rfl) (by decide) rfl ⟨rfl, rfl⟩) ?_
            refine wl_v (.pointer (some ⟨p58, 4, none⟩)) rfl rfl (y_atR (2) (s := 1) rfl rfl rfl (by omega) Try.underlying23 (by omega) (by kernel_rfl) (by omega) ⟨rfl, rfl⟩) ?_
            refine wl_v (v35) rfl rfl (y_ld_stc rfl rfl Try.underlying22 B520 rfl rfl ⟨rfl, rfl⟩) ?_
            refine wl_v (.int .i64 (((pw2 : Nat) : Int))) rfl rfl (y_mov rfl s549 ⟨rfl, rfl⟩) ?_
            refine wl_v (.int .i64 (((y : Nat) : Int))) rfl rfl (y_mov rfl s554 ⟨rfl, rfl⟩) ?_
            refine wl_call (R := fun v_ w_ => v_ = subV (v35) (((((y : Nat) : Int)) * (((pw2 : Nat) : Int))).toNat) (((((y : Nat) : Int)) * (((pw2 : Nat) : Int)) + (((pw2 : Nat) : Int))).toNat) (((((y : Nat) : Int)) * (((pw2 : Nat) : Int)) + (((pw2 : Nat) : Int))).toNat) ∧ Kept (fun _ => False) w503 w_) rfl rfl (y_cs rfl rfl rfl (fun _ _ => by kernel_rfl) (ev_func _) (vsC rfl (vsC rfl (vsC rfl vsN))) (ps_row (v35) (fillL (ph2 * pw2) s (y * pw2)) (((pw2 : Nat) : Int)) (((y : Nat) : Int)) (T501) _ (by omega) (by omega) (by rw [hfl]; exact hz.2.2.2) (by omega) (B519).byt ) (fun e_ w_ h_ => ⟨_, h_.1, rfl, h_.2⟩)) ?_
            rintro _ w555 ⟨rfl, k556⟩
            have B557 := B516.all k556 id
            have B558 := B517.all k556 Apart.none
            have B559 := B518.all k556 Apart.none
            have B560 := B519.all k556 Apart.none
            have B561 := B520.all k556 id
            have B562 := B521.all k556 Apart.none
            have B563 := B522.all k556 Apart.none
            have K564 := K504.trans k556 (fun _ _ x => x.elim)
            refine wl_v (v107) rfl rfl (y_mov rfl s547 ⟨rfl, rfl⟩) ?_
            refine wl_copyM rfl rfl rfl rfl rfl (part_sub (B560).byt (by omega)) rfl B560 B563 (by rw [hfl]; omega) fun w566 B568 k567 => ?_
            have B571 := B557.all k567 (fun x => (((ap524).symm) p1 rfl x))
            have B572 := B558.all k567 (fun i h x => (((ap525).symm) i h x))
            have B573 := B559.all k567 (fun i h x => (((ap526).symm) i h x))
            have B574 := B561.all k567 (fun x => (((ap527).symm) p58 rfl x))
            have B575 := B562.all k567 (fun i h x => (((ap528).symm) i h x))
            have B576 := B563.all k567 (fun i h x => (((ap529).symm) i h x))
            have K577 := K564.trans k567 (Grew.ok (S := fun _ => False) gr523 noB_le)
            refine wl_nil fun F578 hF579 => ?_
            have s580 : F578 6 = .pointer (some ⟨p1, 0, none⟩) := (hF579 6).trans s545
            have s581 : F578 8 = .pointer (some ⟨p58, 0, none⟩) := (hF579 8).trans s546
            have s582 : F578 9 = v107 := (hF579 9).trans s547
            have s583 : F578 10 = .int .i64 (((2 : Nat) : Int)) := (hF579 10).trans s548
            have s584 : F578 11 = .int .i64 (((pw2 : Nat) : Int)) := (hF579 11).trans s549
            have s585 : F578 30 = .int .i64 (((2 : Nat) : Int)) := (hF579 30).trans s550
            have s586 : F578 39 = .int .i64 (((ph2 : Nat) : Int)) := (hF579 39).trans s551
            have s587 : F578 55 = undef := (hF579 55).trans s552
            have s588 : F578 40 = .int .i64 (((y : Nat) : Int)) := (hF579 40).trans s553
            clear hF579
            refine in_normal ?_
            refine then_normal ?_
            refine wq_region ?_
            refine wl_v (.int .i64 (((y + 1 : Nat) : Int))) rfl rfl (y_add rfl s588 rfl (i64_n (by omega) (by omega)) ⟨rfl, rfl⟩) ?_
            refine wl_v (.int .i64 (((y + 1 : Nat) : Int))) rfl rfl (y_mov rfl rfl ⟨rfl, rfl⟩) ?_
            refine wl_nil fun F589 hF590 => ?_
            have s591 : F589 6 = .pointer (some ⟨p1, 0, none⟩) := (hF590 6).trans s580
            have s592 : F589 8 = .pointer (some ⟨p58, 0, none⟩) := (hF590 8).trans s581
            have s593 : F589 9 = v107 := (hF590 9).trans s582
            have s594 : F589 10 = .int .i64 (((2 : Nat) : Int)) := (hF590 10).trans s583
            have s595 : F589 11 = .int .i64 (((pw2 : Nat) : Int)) := (hF590 11).trans s584
            have s596 : F589 30 = .int .i64 (((2 : Nat) : Int)) := (hF590 30).trans s585
            have s597 : F589 39 = .int .i64 (((ph2 : Nat) : Int)) := (hF590 39).trans s586
            have s598 : F589 55 = undef := (hF590 55).trans s587
            have s599 : F589 40 = .int .i64 (((y + 1 : Nat) : Int)) := (hF590 40).trans rfl
            clear hF590
            exact then_normal ⟨(ph2 - (y + 1)), by omega, y + 1, T501, by omega, rfl, s591, s592, s593, s594, s595, s596, s597, s598, s599, K577, B571, B572, B573, Owb.of_eq (fill_next hB2.1) B568, B574, B575, B576, gr523, ap524, ap525, ap526, ap527, ap528, ap529⟩
          · replace c542 := of_decide_eq_false c542
            refine wq_exit ?_
            refine then_exit ?_
            refine then_exit ?_
            have l600 : ph2 = y := by omega
            subst l600
            have hl2 : (fillL (ph2 * pw2) s (ph2 * pw2)).length = (newF w h 0).p2.length := by rw [fill_length (Nat.le_refl _), hA2, List.length_replicate]
            refine in_here ?_
            refine in_normal ?_
            refine then_normal ?_
            refine wq_region ?_
            refine wl_v (.int .i64 (((3 : Nat) : Int))) rfl rfl (y_add rfl s537 rfl (i64_n (by omega) (by omega)) ⟨rfl, rfl⟩) ?_
            refine wl_v (.int .i64 (((3 : Nat) : Int))) rfl rfl (y_mov rfl rfl ⟨rfl, rfl⟩) ?_
            refine wl_nil fun F601 hF602 => ?_
            have s603 : F601 6 = .pointer (some ⟨p1, 0, none⟩) := (hF602 6).trans s532
            have s604 : F601 8 = .pointer (some ⟨p58, 0, none⟩) := (hF602 8).trans s533
            have s605 : F601 9 = v107 := (hF602 9).trans s534
            have s606 : F601 55 = undef := (hF602 55).trans s539
            have s607 : F601 30 = .int .i64 (((3 : Nat) : Int)) := (hF602 30).trans rfl
            clear hF602
            refine then_normal ?_
            refine wqr_step ?_
            refine wq_seq ?_
            refine wq_region ?_
            refine wl_v (.bool false) rfl rfl (y_lss rfl s607 rfl rfl ⟨rfl, rfl⟩) ?_
            refine wl_nil fun F608 hF609 => ?_
            have s610 : F608 6 = .pointer (some ⟨p1, 0, none⟩) := (hF609 6).trans s603
            have s611 : F608 8 = .pointer (some ⟨p58, 0, none⟩) := (hF609 8).trans s604
            have s612 : F608 9 = v107 := (hF609 9).trans s605
            have s613 : F608 55 = undef := (hF609 55).trans s606
            have s614 : F608 30 = .int .i64 (((3 : Nat) : Int)) := (hF609 30).trans s607
            have s615 : F608 31 = .bool false := (hF609 31).trans rfl
            clear hF609
            refine then_normal ?_
            refine wq_seq ?_
            refine wq_cond (t := false) s615 (fun e => by cases e) (fun _ => ?_)
            refine wq_exit ?_
            refine then_exit ?_
            refine then_exit ?_
            refine in_here ?_
            refine then_normal ?_
            refine wq_seq ?_
            refine wq_region ?_
            refine wl_v (.agg #[.int .i64 ((newF (w) (h) 0).W), .int .i64 ((newF (w) (h) 0).H), v33, v34, v35]) rfl rfl (y_load_stc stcT_frame rfl s611 B520 ⟨rfl, rfl⟩) ?_
            refine wl_store_stc (us := [.int .i64 ((newF (w) (h) 0).W), .int .i64 ((newF (w) (h) 0).H), v33, v34, v35]) stcT_frame rfl rfl rfl s610 rfl B516 rfl (oneI rfl (oneI rfl (oneI (B517).one (oneI (B518).one (oneI (B519).one oneN))))) fun w616 B617 k618 => ?_
            have B619 := B517.all k618 (fun i h x => ((ap212) i h x))
            have B620 := B518.all k618 (fun i h x => ((ap368) i h x))
            have B621 := B519.all k618 (fun i h x => ((ap524) i h x))
            have B622 := B520.all k618 (fun x => ((ap64) p58 rfl x))
            have B623 := B521.all k618 (fun i h x => ((ap96) i h x))
            have B624 := B522.all k618 (fun i h x => ((ap121) i h x))
            have K625 := K504.trans k618 (Grew.ok (S := fun _ => False) gr6 noB_le)
            refine wl_v (.int .i64 (0)) rfl rfl (y_asg rfl rfl ⟨rfl, rfl⟩) ?_
            refine wl_nil fun F626 hF627 => ?_
            have s628 : F626 6 = .pointer (some ⟨p1, 0, none⟩) := (hF627 6).trans s610
            have s629 : F626 55 = undef := (hF627 55).trans s613
            have s630 : F626 7 = .int .i64 (0) := (hF627 7).trans rfl
            clear hF627
            refine then_normal ?_
            refine wq_ret ?_
            exact end_2 s629 rfl (res_stc (vs := [.int .i64 ((newF (w) (h) 0).W), .int .i64 ((newF (w) (h) 0).H), v33, v34, v35]) stcT_frame rfl s628 B617) (res_tmp (v := .int .i64 (0)) rfl s630) ⟨v33, T189, v34, T345, v35, T501, (by first | rw [(new_side s hsw hsh).1, (new_side s hsw hsh).2, (new_side 0 hsw hsh).1, (new_side 0 hsw hsh).2, newE_yes hsw hsh] | (rw [hN, newE_no hno]; rfl)), K625, ⟨(by first | exact Owb.of_eq (fill_done hE0) B619 | (rw [hN]; exact B619)), gr211⟩, ⟨(by first | exact Owb.of_eq (fill_done hE1) B620 | (rw [hN]; exact B620)), gr367⟩, ⟨(by first | exact Owb.of_eq (fill_done hE2) B621 | (rw [hN]; exact B621)), gr523⟩, (ap369).symm, (ap525).symm, (ap526).symm⟩
    · skip
      refine wq_region ?_
      refine wl_v (.int .i64 (w)) rfl rfl (y_mov rfl s10 ⟨rfl, rfl⟩) ?_
      refine wl_call (R := fun v_ w_ => v_ = .bool true ∧ Kept (fun _ => False) w2 w_) rfl rfl (y_cs rfl rfl rfl (fun _ _ => by kernel_rfl) (ev_func _) (vsC rfl vsN) (ps_side (w)  _   ) (fun e_ w_ h_ => ⟨_, h_.1, (congrArg Value.bool d15), h_.2⟩)) ?_
      rintro _ w631 ⟨rfl, k632⟩
      have B633 := B4.all k632 id
      have K634 := K7.trans k632 (fun _ _ x => x.elim)
      refine wl_v (.bool false) rfl rfl (y_not rfl rfl rfl ⟨rfl, rfl⟩) ?_
      refine wl_v (.bool false) rfl rfl (y_mov rfl rfl ⟨rfl, rfl⟩) ?_
      refine wl_vw (.int .i64 (h)) 3 false 17 rfl rfl rfl rfl rfl (y_mov rfl s11 ⟨rfl, rfl⟩) ?_
      refine wl_callw (R := fun v_ w_ => v_ = .bool false ∧ Kept (fun _ => False) w631 w_) 3 false 17 rfl rfl rfl rfl rfl (y_cs rfl rfl rfl (fun _ _ => by kernel_rfl) (ev_func _) (vsC rfl vsN) (ps_side (h)  _   ) (fun e_ w_ h_ => ⟨_, h_.1, (congrArg Value.bool d16), h_.2⟩)) ?_
      rintro _ w635 ⟨rfl, k636⟩
      have B637 := B633.all k636 id
      have K638 := K634.trans k636 (fun _ _ x => x.elim)
      refine wl_vw (.bool true) 3 false 17 rfl rfl rfl rfl rfl (y_not rfl rfl rfl ⟨rfl, rfl⟩) ?_
      refine wl_v (.bool true) rfl rfl (y_pickF rfl rfl rfl ⟨rfl, rfl⟩) ?_
      refine wl_nil fun F639 hF640 => ?_
      have s641 : F639 0 = .int .i64 (w) := (hF640 0).trans s10
      have s642 : F639 1 = .int .i64 (h) := (hF640 1).trans s11
      have s643 : F639 2 = .int .u8 (((s : Nat) : Int)) := (hF640 2).trans s12
      have s644 : F639 55 = undef := (hF640 55).trans s13
      have s645 : F639 6 = .pointer (some ⟨p1, 0, none⟩) := (hF640 6).trans s14
      have s646 : F639 21 = .bool true := (hF640 21).trans rfl
      clear hF640
      refine then_normal ?_
      refine wq_cond (t := true) s646 (fun _ => ?_) (fun e => by cases e)
      refine wq_seq ?_
      have hno : ¬ (sideB w = true ∧ sideB h = true) := by rintro ⟨h1, h2⟩; simp_all
      have hN := newF_no s hno
      refine wq_region ?_
      refine wl_v (.agg #[.int .i64 (0), .int .i64 (0), .slice none 0 0, .slice none 0 0, .slice none 0 0]) rfl rfl (y_buildL (l' := []) (cells := #[.int .i64 (0), .int .i64 (0), .slice none 0 0, .slice none 0 0, .slice none 0 0]) rfl bpN (by kernel_rfl) rfl ⟨rfl, rfl⟩) ?_
      refine wl_store_stc (us := [.int .i64 (0), .int .i64 (0), .slice none 0 0, .slice none 0 0, .slice none 0 0]) stcT_frame rfl rfl rfl s645 rfl B637 rfl (oneI rfl (oneI rfl (oneI rfl (oneI rfl (oneI rfl oneN))))) fun w647 B648 k649 => ?_
      have K650 := K638.trans k649 (Grew.ok (S := fun _ => False) gr6 noB_le)
      refine wl_v (.int .i64 (70)) rfl rfl (y_asg rfl rfl ⟨rfl, rfl⟩) ?_
      refine wl_nil fun F651 hF652 => ?_
      have s653 : F651 55 = undef := (hF652 55).trans s644
      have s654 : F651 6 = .pointer (some ⟨p1, 0, none⟩) := (hF652 6).trans s645
      have s655 : F651 7 = .int .i64 (70) := (hF652 7).trans rfl
      clear hF652
      refine then_normal ?_
      refine wq_ret ?_
      refine then_ret ?_
      exact end_2 s653 rfl (res_stc (vs := [.int .i64 (0), .int .i64 (0), .slice none 0 0, .slice none 0 0, .slice none 0 0]) stcT_frame rfl s654 B648) (res_tmp (v := .int .i64 (70)) rfl s655) ⟨(.slice none 0 0), noB, (.slice none 0 0), noB, (.slice none 0 0), noB, (by first | rw [(new_side s hsw hsh).1, (new_side s hsw hsh).2, (new_side 0 hsw hsh).1, (new_side 0 hsw hsh).2, newE_yes hsw hsh] | (rw [hN, newE_no hno]; rfl)), K650, ⟨(by first | exact Owb.of_eq (fill_done hE0) (Owb.nil _) | (rw [hN]; exact (Owb.nil _))), (Grew.refl _ _)⟩, ⟨(by first | exact Owb.of_eq (fill_done hE1) (Owb.nil _) | (rw [hN]; exact (Owb.nil _))), (Grew.refl _ _)⟩, ⟨(by first | exact Owb.of_eq (fill_done hE2) (Owb.nil _) | (rw [hN]; exact (Owb.nil _))), (Grew.refl _ _)⟩, Apart.none, Apart.none, Apart.none⟩
  · skip
    refine wq_region ?_
    refine wl_v (.int .i64 (w)) rfl rfl (y_mov rfl s10 ⟨rfl, rfl⟩) ?_
    refine wl_call (R := fun v_ w_ => v_ = .bool false ∧ Kept (fun _ => False) w2 w_) rfl rfl (y_cs rfl rfl rfl (fun _ _ => by kernel_rfl) (ev_func _) (vsC rfl vsN) (ps_side (w)  _   ) (fun e_ w_ h_ => ⟨_, h_.1, (congrArg Value.bool d15), h_.2⟩)) ?_
    rintro _ w656 ⟨rfl, k657⟩
    have B658 := B4.all k657 id
    have K659 := K7.trans k657 (fun _ _ x => x.elim)
    refine wl_v (.bool true) rfl rfl (y_not rfl rfl rfl ⟨rfl, rfl⟩) ?_
    refine wl_v (.bool true) rfl rfl (y_mov rfl rfl ⟨rfl, rfl⟩) ?_
    refine wl_unless 3 false 17 rfl rfl rfl (Or.inl rfl) rfl ?_
    refine wl_unless 3 false 17 rfl rfl rfl (Or.inl rfl) rfl ?_
    refine wl_unless 3 false 17 rfl rfl rfl (Or.inl rfl) rfl ?_
    refine wl_v (.bool true) rfl rfl (y_pickT rfl rfl rfl ⟨rfl, rfl⟩) ?_
    refine wl_nil fun F660 hF661 => ?_
    have s662 : F660 0 = .int .i64 (w) := (hF661 0).trans s10
    have s663 : F660 1 = .int .i64 (h) := (hF661 1).trans s11
    have s664 : F660 2 = .int .u8 (((s : Nat) : Int)) := (hF661 2).trans s12
    have s665 : F660 55 = undef := (hF661 55).trans s13
    have s666 : F660 6 = .pointer (some ⟨p1, 0, none⟩) := (hF661 6).trans s14
    have s667 : F660 21 = .bool true := (hF661 21).trans rfl
    clear hF661
    refine then_normal ?_
    refine wq_cond (t := true) s667 (fun _ => ?_) (fun e => by cases e)
    refine wq_seq ?_
    have hno : ¬ (sideB w = true ∧ sideB h = true) := by rintro ⟨h1, h2⟩; simp_all
    have hN := newF_no s hno
    refine wq_region ?_
    refine wl_v (.agg #[.int .i64 (0), .int .i64 (0), .slice none 0 0, .slice none 0 0, .slice none 0 0]) rfl rfl (y_buildL (l' := []) (cells := #[.int .i64 (0), .int .i64 (0), .slice none 0 0, .slice none 0 0, .slice none 0 0]) rfl bpN (by kernel_rfl) rfl ⟨rfl, rfl⟩) ?_
    refine wl_store_stc (us := [.int .i64 (0), .int .i64 (0), .slice none 0 0, .slice none 0 0, .slice none 0 0]) stcT_frame rfl rfl rfl s666 rfl B658 rfl (oneI rfl (oneI rfl (oneI rfl (oneI rfl (oneI rfl oneN))))) fun w668 B669 k670 => ?_
    have K671 := K659.trans k670 (Grew.ok (S := fun _ => False) gr6 noB_le)
    refine wl_v (.int .i64 (70)) rfl rfl (y_asg rfl rfl ⟨rfl, rfl⟩) ?_
    refine wl_nil fun F672 hF673 => ?_
    have s674 : F672 55 = undef := (hF673 55).trans s665
    have s675 : F672 6 = .pointer (some ⟨p1, 0, none⟩) := (hF673 6).trans s666
    have s676 : F672 7 = .int .i64 (70) := (hF673 7).trans rfl
    clear hF673
    refine then_normal ?_
    refine wq_ret ?_
    refine then_ret ?_
    exact end_2 s674 rfl (res_stc (vs := [.int .i64 (0), .int .i64 (0), .slice none 0 0, .slice none 0 0, .slice none 0 0]) stcT_frame rfl s675 B669) (res_tmp (v := .int .i64 (70)) rfl s676) ⟨(.slice none 0 0), noB, (.slice none 0 0), noB, (.slice none 0 0), noB, (by first | rw [(new_side s hsw hsh).1, (new_side s hsw hsh).2, (new_side 0 hsw hsh).1, (new_side 0 hsw hsh).2, newE_yes hsw hsh] | (rw [hN, newE_no hno]; rfl)), K671, ⟨(by first | exact Owb.of_eq (fill_done hE0) (Owb.nil _) | (rw [hN]; exact (Owb.nil _))), (Grew.refl _ _)⟩, ⟨(by first | exact Owb.of_eq (fill_done hE1) (Owb.nil _) | (rw [hN]; exact (Owb.nil _))), (Grew.refl _ _)⟩, ⟨(by first | exact Owb.of_eq (fill_done hE2) (Owb.nil _) | (rw [hN]; exact (Owb.nil _))), (Grew.refl _ _)⟩, Apart.none, Apart.none, Apart.none⟩
end Go.Proofs.Ytceoidglhakanaa
namespace Go.Proofs.Ytceoidglhakanaa
open Go.RowKit

def g9 : FD := putFr (newF 8 8 20) 0 (-3) 0 (blL [0, 0, 0, 10, 0, 0, 0, 20, 0, 0, 0, 20, 0, 0, 0, 20])
set_option maxRecDepth 100000 in
theorem awake9 : smpF g9 0 0 0 = 10 ∧ smpF g9 0 1 0 = 15 ∧ smpF g9 0 2 0 = 20 ∧ smpF g9 0 1 1 = 18 ∧ mvB g9 0 0 0 1 0 0 = 15 ∧ mvE g9 0 0 0 1 0 = 0 ∧ mvE g9 0 0 0 32 0 = 90 ∧ bothB (blL [1]) (blL [4]) 0 = 3 := by
  refine ⟨?_, ?_, ?_, ?_, ?_, ?_, ?_, ?_⟩ <;> decide +kernel
set_option maxRecDepth 100000 in
theorem awake9s : (srF g9 0 0 0 (mvB g9 0 0 0 1 0) 0 0).X = 1 ∧ (srF g9 0 0 0 (mvB g9 0 0 0 1 0) 0 0).Y = 0 ∧ (srF g9 0 0 0 (mvB g9 0 0 0 1 0) 0 0).n = 0 := by
  refine ⟨?_, ?_, ?_⟩ <;> decide +kernel

set_option maxHeartbeats 4000000 in
set_option maxRecDepth 100000 in
theorem mawake (w0 : World) :
    Calls Try.prog 9 #[] w0 fun e w' => e = .returned (.bool true) ∧ Kept (fun _ => False) w0 w' := by
  refine calls_wq (args := []) 87 Try.func9 rfl rfl (Nat.le_of_ble_eq_true rfl) ?_
  have K0 := Kept.refl (fun _ => False) w0
  have hf := Lib.hid awake9
  have hg := Lib.hid awake9s
  refine wq_seq ?_
  refine wq_region ?_
  refine wl_v (.bool false) rfl rfl (y_asg rfl rfl ⟨rfl, rfl⟩) ?_
  refine wl_nil fun F1 hF2 => ?_
  have s3 : F1 87 = undef := (hF2 87).trans rfl
  clear hF2
  refine then_normal ?_
  refine wq_seq ?_
  refine wq_region ?_
  refine wl_call (R := fun v_ w_ => ∃ (v4 : Value) (T9 : Nat → Prop) (v5 : Value) (T10 : Nat → Prop) (v6 : Value) (T11 : Nat → Prop), .tuple #[.agg #[.int .i64 ((newF (8) (8) (20)).W), .int .i64 ((newF (8) (8) (20)).H), v4, v5, v6], .int .i64 (newE (8) (8))] = v_ ∧ Kept (fun _ => False) w0 w_ ∧ (Owb w_ T9 v4 ((newF (8) (8) (20)).p0) ∧ Grew w0 noB T9) ∧ (Owb w_ T10 v5 ((newF (8) (8) (20)).p1) ∧ Grew w0 noB T10) ∧ (Owb w_ T11 v6 ((newF (8) (8) (20)).p2) ∧ Grew w0 noB T11) ∧ Apart T9 T10 ∧ Apart T9 T11 ∧ Apart T10 T11) rfl rfl (y_cs rfl rfl rfl (fun _ _ => by kernel_rfl) (ev_func _) (vsC rfl (vsC rfl (vsC rfl vsN))) (pl_new (8) (8) (20)  _ (by omega)  ) (fun e_ w_ h_ => by obtain ⟨v4_, T9_, v5_, T10_, v6_, T11_, he_, hr_⟩ := h_; exact ⟨_, he_, v4_, T9_, v5_, T10_, v6_, T11_, rfl, hr_⟩)) ?_
  rintro _ w7 ⟨v4, T9, v5, T10, v6, T11, rfl, k8, ⟨B12, g15⟩, ⟨B13, g16⟩, ⟨B14, g17⟩, ap18, ap19, ap20⟩
  have K21 := K0.trans k8 (fun _ _ x => x.elim)
  have gr22 : Grew w0 noB (T9) := Grew.new K0 g15
  have gr23 : Grew w0 noB (T10) := Grew.new K0 g16
  have gr24 : Grew w0 noB (T11) := Grew.new K0 g17
  refine wl_v (.tuple #[.agg #[.int .i64 ((newF (8) (8) (20)).W), .int .i64 ((newF (8) (8) (20)).H), v4, v5, v6], .int .i64 (newE (8) (8))]) rfl rfl (y_mov rfl rfl ⟨rfl, rfl⟩) ?_
  refine wl_v (.agg #[.int .i64 ((newF (8) (8) (20)).W), .int .i64 ((newF (8) (8) (20)).H), v4, v5, v6]) rfl rfl (y_ext rfl rfl rfl ⟨rfl, rfl⟩) ?_
  refine wl_v (.int .i64 (newE (8) (8))) rfl rfl (y_ext rfl rfl rfl ⟨rfl, rfl⟩) ?_
  refine wl_alloc_stc (n := 5) (vs := [.int .i64 (0), .int .i64 (0), .slice none 0 0, .slice none 0 0, .slice none 0 0]) rfl rfl rfl (by kernel_rfl) fun p25 w26 B28 g29 k27 => ?_
  have gr30 : Grew w0 noB (onB p25) := Grew.new K21 g29
  have ap31 : Apart (onB p25) (T9) := Apart.new g29 (B12).live
  have ap32 : Apart (onB p25) (T10) := Apart.new g29 (B13).live
  have ap33 : Apart (onB p25) (T11) := Apart.new g29 (B14).live
  have B34 := B12.all k27 Apart.none
  have B35 := B13.all k27 Apart.none
  have B36 := B14.all k27 Apart.none
  have K37 := K21.trans k27 (fun _ _ x => x.elim)
  refine wl_store_stc (us := [.int .i64 ((newF (8) (8) (20)).W), .int .i64 ((newF (8) (8) (20)).H), v4, v5, v6]) stcT_frame rfl rfl rfl rfl rfl B28 rfl (oneI rfl (oneI rfl (oneI (B34).one (oneI (B35).one (oneI (B36).one oneN))))) fun w38 B39 k40 => ?_
  have B41 := B34.all k40 (fun i h x => (((ap31).symm) i h x))
  have B42 := B35.all k40 (fun i h x => (((ap32).symm) i h x))
  have B43 := B36.all k40 (fun i h x => (((ap33).symm) i h x))
  have K44 := K37.trans k40 (Grew.ok (S := fun _ => False) gr30 noB_le)
  refine wl_v (.int .i64 (newE (8) (8))) rfl rfl (y_asg rfl rfl ⟨rfl, rfl⟩) ?_
  refine wl_nil fun F45 hF46 => ?_
  have s47 : F45 87 = undef := (hF46 87).trans s3
  have s48 : F45 1 = .pointer (some ⟨p25, 0, none⟩) := (hF46 1).trans rfl
  clear hF46
  refine then_normal ?_
  refine wq_seq ?_
  refine wq_region ?_
  refine wl_v (.agg #[.int .i64 ((newF (8) (8) (20)).W), .int .i64 ((newF (8) (8) (20)).H), v4, v5, v6]) rfl rfl (y_load_stc stcT_frame rfl s48 B39 ⟨rfl, rfl⟩) ?_
  refine wl_v (blkV (blL [0, 0, 0, 10, 0, 0, 0, 20, 0, 0, 0, 20, 0, 0, 0, 20])) rfl rfl (y_buildR (cells := (arrL 16 (blL [0, 0, 0, 10, 0, 0, 0, 20, 0, 0, 0, 20, 0, 0, 0, 20])).toArray) rfl (by kernel_rfl) rfl ⟨rfl, rfl⟩) ?_
  refine wl_call (R := fun v_ w_ => ∃ (v49 : Value) (T54 : Nat → Prop) (v50 : Value) (T55 : Nat → Prop) (v51 : Value) (T56 : Nat → Prop), .agg #[.int .i64 ((putFr (newF (8) (8) (20)) (0) (-3) (0) (blL [0, 0, 0, 10, 0, 0, 0, 20, 0, 0, 0, 20, 0, 0, 0, 20])).W), .int .i64 ((putFr (newF (8) (8) (20)) (0) (-3) (0) (blL [0, 0, 0, 10, 0, 0, 0, 20, 0, 0, 0, 20, 0, 0, 0, 20])).H), v49, v50, v51] = v_ ∧ Kept (fun _ => False) w38 w_ ∧ (Owb w_ T54 v49 ((putFr (newF (8) (8) (20)) (0) (-3) (0) (blL [0, 0, 0, 10, 0, 0, 0, 20, 0, 0, 0, 20, 0, 0, 0, 20])).p0) ∧ Grew w38 noB T54) ∧ (Owb w_ T55 v50 ((putFr (newF (8) (8) (20)) (0) (-3) (0) (blL [0, 0, 0, 10, 0, 0, 0, 20, 0, 0, 0, 20, 0, 0, 0, 20])).p1) ∧ Grew w38 noB T55) ∧ (Owb w_ T56 v51 ((putFr (newF (8) (8) (20)) (0) (-3) (0) (blL [0, 0, 0, 10, 0, 0, 0, 20, 0, 0, 0, 20, 0, 0, 0, 20])).p2) ∧ Grew w38 noB T56) ∧ Apart T54 T55 ∧ Apart T54 T56 ∧ Apart T55 T56) rfl rfl (y_cs rfl rfl rfl (fun _ _ => by kernel_rfl) (ev_func _) (vsC rfl (vsC rfl (vsC rfl (vsC rfl (vsC rfl vsN))))) (pl_put (0) (-3) (0) (blL [0, 0, 0, 10, 0, 0, 0, 20, 0, 0, 0, 20, 0, 0, 0, 20]) (newF (8) (8) (20)) (v4) (v5) (v6) (T9) (T10) (T11) _  (B41).byt (B42).byt (B43).byt ) (fun e_ w_ h_ => by obtain ⟨v49_, T54_, v50_, T55_, v51_, T56_, he_, hr_⟩ := h_; exact ⟨_, he_, v49_, T54_, v50_, T55_, v51_, T56_, rfl, hr_⟩)) ?_
  rintro _ w52 ⟨v49, T54, v50, T55, v51, T56, rfl, k53, ⟨B57, g60⟩, ⟨B58, g61⟩, ⟨B59, g62⟩, ap63, ap64, ap65⟩
  have B66 := B41.all k53 Apart.none
  have B67 := B42.all k53 Apart.none
  have B68 := B43.all k53 Apart.none
  have B69 := B39.all k53 id
  have K70 := K44.trans k53 (fun _ _ x => x.elim)
  have gr71 : Grew w0 noB (T54) := Grew.new K44 g60
  have ap72 : Apart (T54) (T9) := Apart.new g60 (B41).live
  have ap73 : Apart (T54) (T10) := Apart.new g60 (B42).live
  have ap74 : Apart (T54) (T11) := Apart.new g60 (B43).live
  have ap75 : Apart (T54) (onB p25) := Apart.new g60 (onB_live (B39).lt)
  have gr76 : Grew w0 noB (T55) := Grew.new K44 g61
  have ap77 : Apart (T55) (T9) := Apart.new g61 (B41).live
  have ap78 : Apart (T55) (T10) := Apart.new g61 (B42).live
  have ap79 : Apart (T55) (T11) := Apart.new g61 (B43).live
  have ap80 : Apart (T55) (onB p25) := Apart.new g61 (onB_live (B39).lt)
  have gr81 : Grew w0 noB (T56) := Grew.new K44 g62
  have ap82 : Apart (T56) (T9) := Apart.new g62 (B41).live
  have ap83 : Apart (T56) (T10) := Apart.new g62 (B42).live
  have ap84 : Apart (T56) (T11) := Apart.new g62 (B43).live
  have ap85 : Apart (T56) (onB p25) := Apart.new g62 (onB_live (B39).lt)
  refine wl_alloc_stc (n := 5) (vs := [.int .i64 (0), .int .i64 (0), .slice none 0 0, .slice none 0 0, .slice none 0 0]) rfl rfl rfl (by kernel_rfl) fun p86 w87 B89 g90 k88 => ?_
  have gr91 : Grew w0 noB (onB p86) := Grew.new K70 g90
  have ap92 : Apart (onB p86) (T9) := Apart.new g90 (B66).live
  have ap93 : Apart (onB p86) (T10) := Apart.new g90 (B67).live
  have ap94 : Apart (onB p86) (T11) := Apart.new g90 (B68).live
  have ap95 : Apart (onB p86) (onB p25) := Apart.new g90 (onB_live (B69).lt)
  have ap96 : Apart (onB p86) (T54) := Apart.new g90 (B57).live
  have ap97 : Apart (onB p86) (T55) := Apart.new g90 (B58).live
  have ap98 : Apart (onB p86) (T56) := Apart.new g90 (B59).live
  have B99 := B66.all k88 Apart.none
  have B100 := B67.all k88 Apart.none
  have B101 := B68.all k88 Apart.none
  have B102 := B69.all k88 id
  have B103 := B57.all k88 Apart.none
  have B104 := B58.all k88 Apart.none
  have B105 := B59.all k88 Apart.none
  have K106 := K70.trans k88 (fun _ _ x => x.elim)
  refine wl_store_stc (us := [.int .i64 ((putFr (newF (8) (8) (20)) (0) (-3) (0) (blL [0, 0, 0, 10, 0, 0, 0, 20, 0, 0, 0, 20, 0, 0, 0, 20])).W), .int .i64 ((putFr (newF (8) (8) (20)) (0) (-3) (0) (blL [0, 0, 0, 10, 0, 0, 0, 20, 0, 0, 0, 20, 0, 0, 0, 20])).H), v49, v50, v51]) stcT_frame rfl rfl rfl rfl rfl B89 rfl (oneI rfl (oneI rfl (oneI (B103).one (oneI (B104).one (oneI (B105).one oneN))))) fun w107 B108 k109 => ?_
  have B110 := B99.all k109 (fun i h x => (((ap92).symm) i h x))
  have B111 := B100.all k109 (fun i h x => (((ap93).symm) i h x))
  have B112 := B101.all k109 (fun i h x => (((ap94).symm) i h x))
  have B113 := B102.all k109 (fun x => (((ap95).symm) p25 rfl x))
  have B114 := B103.all k109 (fun i h x => (((ap96).symm) i h x))
  have B115 := B104.all k109 (fun i h x => (((ap97).symm) i h x))
  have B116 := B105.all k109 (fun i h x => (((ap98).symm) i h x))
  have K117 := K106.trans k109 (Grew.ok (S := fun _ => False) gr91 noB_le)
  refine wl_nil fun F118 hF119 => ?_
  have s120 : F118 87 = undef := (hF119 87).trans s47
  have s121 : F118 3 = .pointer (some ⟨p86, 0, none⟩) := (hF119 3).trans rfl
  clear hF119
  refine then_normal ?_
  refine wq_seq ?_
  refine wq_region ?_
  refine wl_v (.agg #[.int .i64 ((putFr (newF (8) (8) (20)) (0) (-3) (0) (blL [0, 0, 0, 10, 0, 0, 0, 20, 0, 0, 0, 20, 0, 0, 0, 20])).W), .int .i64 ((putFr (newF (8) (8) (20)) (0) (-3) (0) (blL [0, 0, 0, 10, 0, 0, 0, 20, 0, 0, 0, 20, 0, 0, 0, 20])).H), v49, v50, v51]) rfl rfl (y_load_stc stcT_frame rfl s121 B108 ⟨rfl, rfl⟩) ?_
  refine wl_v (.agg #[.int .i64 (1), .int .i64 (0)]) rfl rfl (y_buildL (l' := [(0, .int .i64 (1))]) (cells := #[.int .i64 (1), .int .i64 (0)]) rfl (bpC rfl bpN) (by kernel_rfl) rfl ⟨rfl, rfl⟩) ?_
  refine wl_call (R := fun v_ w_ => v_ = .tuple #[blkV (mvB (putFr (newF (8) (8) (20)) (0) (-3) (0) (blL [0, 0, 0, 10, 0, 0, 0, 20, 0, 0, 0, 20, 0, 0, 0, 20])) (0) (0) (0) (1) (0)), .int .i64 (mvE (putFr (newF (8) (8) (20)) (0) (-3) (0) (blL [0, 0, 0, 10, 0, 0, 0, 20, 0, 0, 0, 20, 0, 0, 0, 20])) (0) (0) (0) (1) (0))] ∧ Kept (fun _ => False) w107 w_) rfl rfl (y_cs rfl rfl rfl (fun _ _ => by kernel_rfl) (ev_func _) (vsC rfl (vsC rfl (vsC rfl (vsC rfl (vsC rfl vsN))))) (mo_predict (0) (0) (0) (1) (0) (putFr (newF (8) (8) (20)) (0) (-3) (0) (blL [0, 0, 0, 10, 0, 0, 0, 20, 0, 0, 0, 20, 0, 0, 0, 20])) (v49) (v50) (v51) (T54) (T55) (T56) _  (B114).byt (B115).byt (B116).byt ) (fun e_ w_ h_ => ⟨_, h_.1, rfl, h_.2⟩)) ?_
  rintro _ w122 ⟨rfl, k123⟩
  have B124 := B110.all k123 Apart.none
  have B125 := B111.all k123 Apart.none
  have B126 := B112.all k123 Apart.none
  have B127 := B113.all k123 id
  have B128 := B114.all k123 Apart.none
  have B129 := B115.all k123 Apart.none
  have B130 := B116.all k123 Apart.none
  have B131 := B108.all k123 id
  have K132 := K117.trans k123 (fun _ _ x => x.elim)
  refine wl_v (.tuple #[blkV (mvB (putFr (newF (8) (8) (20)) (0) (-3) (0) (blL [0, 0, 0, 10, 0, 0, 0, 20, 0, 0, 0, 20, 0, 0, 0, 20])) (0) (0) (0) (1) (0)), .int .i64 (mvE (putFr (newF (8) (8) (20)) (0) (-3) (0) (blL [0, 0, 0, 10, 0, 0, 0, 20, 0, 0, 0, 20, 0, 0, 0, 20])) (0) (0) (0) (1) (0))]) rfl rfl (y_mov rfl rfl ⟨rfl, rfl⟩) ?_
  refine wl_v (blkV (mvB (putFr (newF (8) (8) (20)) (0) (-3) (0) (blL [0, 0, 0, 10, 0, 0, 0, 20, 0, 0, 0, 20, 0, 0, 0, 20])) (0) (0) (0) (1) (0))) rfl rfl (y_ext rfl rfl rfl ⟨rfl, rfl⟩) ?_
  refine wl_v (.int .i64 (mvE (putFr (newF (8) (8) (20)) (0) (-3) (0) (blL [0, 0, 0, 10, 0, 0, 0, 20, 0, 0, 0, 20, 0, 0, 0, 20])) (0) (0) (0) (1) (0))) rfl rfl (y_ext rfl rfl rfl ⟨rfl, rfl⟩) ?_
  refine wl_alloc_blk rfl rfl rfl blkT_block.2.2 fun p133 w134 e137 B135 k136 => ?_
  have g138 := onB_new (Nat.le_of_eq e137.symm)
  have gr139 : Grew w0 noB (onB p133) := Grew.new K132 g138
  have ap140 : Apart (onB p133) (T9) := Apart.new g138 (B124).live
  have ap141 : Apart (onB p133) (T10) := Apart.new g138 (B125).live
  have ap142 : Apart (onB p133) (T11) := Apart.new g138 (B126).live
  have ap143 : Apart (onB p133) (onB p25) := Apart.new g138 (onB_live (B127).lt)
  have ap144 : Apart (onB p133) (T54) := Apart.new g138 (B128).live
  have ap145 : Apart (onB p133) (T55) := Apart.new g138 (B129).live
  have ap146 : Apart (onB p133) (T56) := Apart.new g138 (B130).live
  have ap147 : Apart (onB p133) (onB p86) := Apart.new g138 (onB_live (B131).lt)
  clear e137 g138
  have B148 := B124.all k136 Apart.none
  have B149 := B125.all k136 Apart.none
  have B150 := B126.all k136 Apart.none
  have B151 := B127.all k136 id
  have B152 := B128.all k136 Apart.none
  have B153 := B129.all k136 Apart.none
  have B154 := B130.all k136 Apart.none
  have B155 := B131.all k136 id
  have K156 := K132.trans k136 (fun _ _ x => x.elim)
  refine wl_store_blk blkT_block rfl rfl rfl rfl rfl B135 fun w157 B158 k159 => ?_
  have B160 := B148.all k159 (fun i h x => (((ap140).symm) i h x))
  have B161 := B149.all k159 (fun i h x => (((ap141).symm) i h x))
  have B162 := B150.all k159 (fun i h x => (((ap142).symm) i h x))
  have B163 := B151.all k159 (fun x => (((ap143).symm) p25 rfl x))
  have B164 := B152.all k159 (fun i h x => (((ap144).symm) i h x))
  have B165 := B153.all k159 (fun i h x => (((ap145).symm) i h x))
  have B166 := B154.all k159 (fun i h x => (((ap146).symm) i h x))
  have B167 := B155.all k159 (fun x => (((ap147).symm) p86 rfl x))
  have K168 := K156.trans k159 (Grew.ok (S := fun _ => False) gr139 noB_le)
  refine wl_v (.int .i64 (mvE (putFr (newF (8) (8) (20)) (0) (-3) (0) (blL [0, 0, 0, 10, 0, 0, 0, 20, 0, 0, 0, 20, 0, 0, 0, 20])) (0) (0) (0) (1) (0))) rfl rfl (y_asg rfl rfl ⟨rfl, rfl⟩) ?_
  refine wl_nil fun F169 hF170 => ?_
  have s171 : F169 87 = undef := (hF170 87).trans s120
  have s172 : F169 3 = .pointer (some ⟨p86, 0, none⟩) := (hF170 3).trans s121
  have s173 : F169 4 = .pointer (some ⟨p133, 0, none⟩) := (hF170 4).trans rfl
  have s174 : F169 5 = .int .i64 (mvE (putFr (newF (8) (8) (20)) (0) (-3) (0) (blL [0, 0, 0, 10, 0, 0, 0, 20, 0, 0, 0, 20, 0, 0, 0, 20])) (0) (0) (0) (1) (0)) := (hF170 5).trans rfl
  clear hF170
  refine then_normal ?_
  refine wq_seq ?_
  refine wq_region ?_
  refine wl_v (.agg #[.int .i64 ((putFr (newF (8) (8) (20)) (0) (-3) (0) (blL [0, 0, 0, 10, 0, 0, 0, 20, 0, 0, 0, 20, 0, 0, 0, 20])).W), .int .i64 ((putFr (newF (8) (8) (20)) (0) (-3) (0) (blL [0, 0, 0, 10, 0, 0, 0, 20, 0, 0, 0, 20, 0, 0, 0, 20])).H), v49, v50, v51]) rfl rfl (y_load_stc stcT_frame rfl s172 B167 ⟨rfl, rfl⟩) ?_
  refine wl_v (.agg #[.int .i64 (32), .int .i64 (0)]) rfl rfl (y_buildL (l' := [(0, .int .i64 (32))]) (cells := #[.int .i64 (32), .int .i64 (0)]) rfl (bpC rfl bpN) (by kernel_rfl) rfl ⟨rfl, rfl⟩) ?_
  refine wl_call (R := fun v_ w_ => v_ = .tuple #[blkV (mvB (putFr (newF (8) (8) (20)) (0) (-3) (0) (blL [0, 0, 0, 10, 0, 0, 0, 20, 0, 0, 0, 20, 0, 0, 0, 20])) (0) (0) (0) (32) (0)), .int .i64 (mvE (putFr (newF (8) (8) (20)) (0) (-3) (0) (blL [0, 0, 0, 10, 0, 0, 0, 20, 0, 0, 0, 20, 0, 0, 0, 20])) (0) (0) (0) (32) (0))] ∧ Kept (fun _ => False) w157 w_) rfl rfl (y_cs rfl rfl rfl (fun _ _ => by kernel_rfl) (ev_func _) (vsC rfl (vsC rfl (vsC rfl (vsC rfl (vsC rfl vsN))))) (mo_predict (0) (0) (0) (32) (0) (putFr (newF (8) (8) (20)) (0) (-3) (0) (blL [0, 0, 0, 10, 0, 0, 0, 20, 0, 0, 0, 20, 0, 0, 0, 20])) (v49) (v50) (v51) (T54) (T55) (T56) _  (B164).byt (B165).byt (B166).byt ) (fun e_ w_ h_ => ⟨_, h_.1, rfl, h_.2⟩)) ?_
  rintro _ w175 ⟨rfl, k176⟩
  have B177 := B160.all k176 Apart.none
  have B178 := B161.all k176 Apart.none
  have B179 := B162.all k176 Apart.none
  have B180 := B163.all k176 id
  have B181 := B164.all k176 Apart.none
  have B182 := B165.all k176 Apart.none
  have B183 := B166.all k176 Apart.none
  have B184 := B167.all k176 id
  have B185 := B158.all k176 id
  have K186 := K168.trans k176 (fun _ _ x => x.elim)
  refine wl_v (.tuple #[blkV (mvB (putFr (newF (8) (8) (20)) (0) (-3) (0) (blL [0, 0, 0, 10, 0, 0, 0, 20, 0, 0, 0, 20, 0, 0, 0, 20])) (0) (0) (0) (32) (0)), .int .i64 (mvE (putFr (newF (8) (8) (20)) (0) (-3) (0) (blL [0, 0, 0, 10, 0, 0, 0, 20, 0, 0, 0, 20, 0, 0, 0, 20])) (0) (0) (0) (32) (0))]) rfl rfl (y_mov rfl rfl ⟨rfl, rfl⟩) ?_
  refine wl_v (blkV (mvB (putFr (newF (8) (8) (20)) (0) (-3) (0) (blL [0, 0, 0, 10, 0, 0, 0, 20, 0, 0, 0, 20, 0, 0, 0, 20])) (0) (0) (0) (32) (0))) rfl rfl (y_ext rfl rfl rfl ⟨rfl, rfl⟩) ?_
  refine wl_v (.int .i64 (mvE (putFr (newF (8) (8) (20)) (0) (-3) (0) (blL [0, 0, 0, 10, 0, 0, 0, 20, 0, 0, 0, 20, 0, 0, 0, 20])) (0) (0) (0) (32) (0))) rfl rfl (y_ext rfl rfl rfl ⟨rfl, rfl⟩) ?_
  refine wl_alloc_blk rfl rfl rfl blkT_block.2.2 fun p187 w188 e191 B189 k190 => ?_
  have g192 := onB_new (Nat.le_of_eq e191.symm)
  have gr193 : Grew w0 noB (onB p187) := Grew.new K186 g192
  have ap194 : Apart (onB p187) (T9) := Apart.new g192 (B177).live
  have ap195 : Apart (onB p187) (T10) := Apart.new g192 (B178).live
  have ap196 : Apart (onB p187) (T11) := Apart.new g192 (B179).live
  have ap197 : Apart (onB p187) (onB p25) := Apart.new g192 (onB_live (B180).lt)
  have ap198 : Apart (onB p187) (T54) := Apart.new g192 (B181).live
  have ap199 : Apart (onB p187) (T55) := Apart.new g192 (B182).live
  have ap200 : Apart (onB p187) (T56) := Apart.new g192 (B183).live
  have ap201 : Apart (onB p187) (onB p86) := Apart.new g192 (onB_live (B184).lt)
  have ap202 : Apart (onB p187) (onB p133) := Apart.new g192 (onB_live (B185).lt)
  clear e191 g192
  have B203 := B177.all k190 Apart.none
  have B204 := B178.all k190 Apart.none
  have B205 := B179.all k190 Apart.none
  have B206 := B180.all k190 id
  have B207 := B181.all k190 Apart.none
  have B208 := B182.all k190 Apart.none
  have B209 := B183.all k190 Apart.none
  have B210 := B184.all k190 id
  have B211 := B185.all k190 id
  have K212 := K186.trans k190 (fun _ _ x => x.elim)
  refine wl_store_blk blkT_block rfl rfl rfl rfl rfl B189 fun w213 B214 k215 => ?_
  have B216 := B203.all k215 (fun i h x => (((ap194).symm) i h x))
  have B217 := B204.all k215 (fun i h x => (((ap195).symm) i h x))
  have B218 := B205.all k215 (fun i h x => (((ap196).symm) i h x))
  have B219 := B206.all k215 (fun x => (((ap197).symm) p25 rfl x))
  have B220 := B207.all k215 (fun i h x => (((ap198).symm) i h x))
  have B221 := B208.all k215 (fun i h x => (((ap199).symm) i h x))
  have B222 := B209.all k215 (fun i h x => (((ap200).symm) i h x))
  have B223 := B210.all k215 (fun x => (((ap201).symm) p86 rfl x))
  have B224 := B211.all k215 (fun x => (((ap202).symm) p133 rfl x))
  have K225 := K212.trans k215 (Grew.ok (S := fun _ => False) gr193 noB_le)
  refine wl_v (.int .i64 (mvE (putFr (newF (8) (8) (20)) (0) (-3) (0) (blL [0, 0, 0, 10, 0, 0, 0, 20, 0, 0, 0, 20, 0, 0, 0, 20])) (0) (0) (0) (32) (0))) rfl rfl (y_asg rfl rfl ⟨rfl, rfl⟩) ?_
  refine wl_nil fun F226 hF227 => ?_
  have s228 : F226 87 = undef := (hF227 87).trans s171
  have s229 : F226 3 = .pointer (some ⟨p86, 0, none⟩) := (hF227 3).trans s172
  have s230 : F226 4 = .pointer (some ⟨p133, 0, none⟩) := (hF227 4).trans s173
  have s231 : F226 5 = .int .i64 (mvE (putFr (newF (8) (8) (20)) (0) (-3) (0) (blL [0, 0, 0, 10, 0, 0, 0, 20, 0, 0, 0, 20, 0, 0, 0, 20])) (0) (0) (0) (1) (0)) := (hF227 5).trans s174
  have s232 : F226 7 = .int .i64 (mvE (putFr (newF (8) (8) (20)) (0) (-3) (0) (blL [0, 0, 0, 10, 0, 0, 0, 20, 0, 0, 0, 20, 0, 0, 0, 20])) (0) (0) (0) (32) (0)) := (hF227 7).trans rfl
  clear hF227
  refine then_normal ?_
  refine wq_seq ?_
  refine wq_region ?_
  refine wl_v (.agg #[.int .i64 ((putFr (newF (8) (8) (20)) (0) (-3) (0) (blL [0, 0, 0, 10, 0, 0, 0, 20, 0, 0, 0, 20, 0, 0, 0, 20])).W), .int .i64 ((putFr (newF (8) (8) (20)) (0) (-3) (0) (blL [0, 0, 0, 10, 0, 0, 0, 20, 0, 0, 0, 20, 0, 0, 0, 20])).H), v49, v50, v51]) rfl rfl (y_load_stc stcT_frame rfl s229 B223 ⟨rfl, rfl⟩) ?_
  refine wl_v (blkV (mvB (putFr (newF (8) (8) (20)) (0) (-3) (0) (blL [0, 0, 0, 10, 0, 0, 0, 20, 0, 0, 0, 20, 0, 0, 0, 20])) (0) (0) (0) (1) (0))) rfl rfl (y_load_blk blkT_block rfl s230 B224 ⟨rfl, rfl⟩) ?_
  refine wl_v (.agg #[.int .i64 (0), .int .i64 (0)]) rfl rfl (y_buildL (l' := []) (cells := #[.int .i64 (0), .int .i64 (0)]) rfl bpN (by kernel_rfl) rfl ⟨rfl, rfl⟩) ?_
  refine wl_call (R := fun v_ w_ => v_ = .tuple #[.agg #[.int .i64 ((srF (putFr (newF (8) (8) (20)) (0) (-3) (0) (blL [0, 0, 0, 10, 0, 0, 0, 20, 0, 0, 0, 20, 0, 0, 0, 20])) (0) (0) (0) (mvB (putFr (newF (8) (8) (20)) (0) (-3) (0) (blL [0, 0, 0, 10, 0, 0, 0, 20, 0, 0, 0, 20, 0, 0, 0, 20])) (0) (0) (0) (1) (0)) (0) (0)).X), .int .i64 ((srF (putFr (newF (8) (8) (20)) (0) (-3) (0) (blL [0, 0, 0, 10, 0, 0, 0, 20, 0, 0, 0, 20, 0, 0, 0, 20])) (0) (0) (0) (mvB (putFr (newF (8) (8) (20)) (0) (-3) (0) (blL [0, 0, 0, 10, 0, 0, 0, 20, 0, 0, 0, 20, 0, 0, 0, 20])) (0) (0) (0) (1) (0)) (0) (0)).Y)], .int .i64 ((srF (putFr (newF (8) (8) (20)) (0) (-3) (0) (blL [0, 0, 0, 10, 0, 0, 0, 20, 0, 0, 0, 20, 0, 0, 0, 20])) (0) (0) (0) (mvB (putFr (newF (8) (8) (20)) (0) (-3) (0) (blL [0, 0, 0, 10, 0, 0, 0, 20, 0, 0, 0, 20, 0, 0, 0, 20])) (0) (0) (0) (1) (0)) (0) (0)).n)] ∧ Kept (fun _ => False) w213 w_) rfl rfl (y_cs rfl rfl rfl (fun _ _ => by kernel_rfl) (ev_func _) (vsC rfl (vsC rfl (vsC rfl (vsC rfl (vsC rfl (vsC rfl vsN)))))) (mo_search (0) (0) (0) (0) (0) (mvB (putFr (newF (8) (8) (20)) (0) (-3) (0) (blL [0, 0, 0, 10, 0, 0, 0, 20, 0, 0, 0, 20, 0, 0, 0, 20])) (0) (0) (0) (1) (0)) (putFr (newF (8) (8) (20)) (0) (-3) (0) (blL [0, 0, 0, 10, 0, 0, 0, 20, 0, 0, 0, 20, 0, 0, 0, 20])) (v49) (v50) (v51) (T54) (T55) (T56) _  (B220).byt (B221).byt (B222).byt ) (fun e_ w_ h_ => ⟨_, h_.1, rfl, h_.2⟩)) ?_
  rintro _ w233 ⟨rfl, k234⟩
  have B235 := B216.all k234 Apart.none
  have B236 := B217.all k234 Apart.none
  have B237 := B218.all k234 Apart.none
  have B238 := B219.all k234 id
  have B239 := B220.all k234 Apart.none
  have B240 := B221.all k234 Apart.none
  have B241 := B222.all k234 Apart.none
  have B242 := B223.all k234 id
  have B243 := B224.all k234 id
  have B244 := B214.all k234 id
  have K245 := K225.trans k234 (fun _ _ x => x.elim)
  refine wl_v (.tuple #[.agg #[.int .i64 ((srF (putFr (newF (8) (8) (20)) (0) (-3) (0) (blL [0, 0, 0, 10, 0, 0, 0, 20, 0, 0, 0, 20, 0, 0, 0, 20])) (0) (0) (0) (mvB (putFr (newF (8) (8) (20)) (0) (-3) (0) (blL [0, 0, 0, 10, 0, 0, 0, 20, 0, 0, 0, 20, 0, 0, 0, 20])) (0) (0) (0) (1) (0)) (0) (0)).X), .int .i64 ((srF (putFr (newF (8) (8) (20)) (0) (-3) (0) (blL [0, 0, 0, 10, 0, 0, 0, 20, 0, 0, 0, 20, 0, 0, 0, 20])) (0) (0) (0) (mvB (putFr (newF (8) (8) (20)) (0) (-3) (0) (blL [0, 0, 0, 10, 0, 0, 0, 20, 0, 0, 0, 20, 0, 0, 0, 20])) (0) (0) (0) (1) (0)) (0) (0)).Y)], .int .i64 ((srF (putFr (newF (8) (8) (20)) (0) (-3) (0) (blL [0, 0, 0, 10, 0, 0, 0, 20, 0, 0, 0, 20, 0, 0, 0, 20])) (0) (0) (0) (mvB (putFr (newF (8) (8) (20)) (0) (-3) (0) (blL [0, 0, 0, 10, 0, 0, 0, 20, 0, 0, 0, 20, 0, 0, 0, 20])) (0) (0) (0) (1) (0)) (0) (0)).n)]) rfl rfl (y_mov rfl rfl ⟨rfl, rfl⟩) ?_
  refine wl_v (.agg #[.int .i64 ((srF (putFr (newF (8) (8) (20)) (0) (-3) (0) (blL [0, 0, 0, 10, 0, 0, 0, 20, 0, 0, 0, 20, 0, 0, 0, 20])) (0) (0) (0) (mvB (putFr (newF (8) (8) (20)) (0) (-3) (0) (blL [0, 0, 0, 10, 0, 0, 0, 20, 0, 0, 0, 20, 0, 0, 0, 20])) (0) (0) (0) (1) (0)) (0) (0)).X), .int .i64 ((srF (putFr (newF (8) (8) (20)) (0) (-3) (0) (blL [0, 0, 0, 10, 0, 0, 0, 20, 0, 0, 0, 20, 0, 0, 0, 20])) (0) (0) (0) (mvB (putFr (newF (8) (8) (20)) (0) (-3) (0) (blL [0, 0, 0, 10, 0, 0, 0, 20, 0, 0, 0, 20, 0, 0, 0, 20])) (0) (0) (0) (1) (0)) (0) (0)).Y)]) rfl rfl (y_ext rfl rfl rfl ⟨rfl, rfl⟩) ?_
  refine wl_v (.int .i64 ((srF (putFr (newF (8) (8) (20)) (0) (-3) (0) (blL [0, 0, 0, 10, 0, 0, 0, 20, 0, 0, 0, 20, 0, 0, 0, 20])) (0) (0) (0) (mvB (putFr (newF (8) (8) (20)) (0) (-3) (0) (blL [0, 0, 0, 10, 0, 0, 0, 20, 0, 0, 0, 20, 0, 0, 0, 20])) (0) (0) (0) (1) (0)) (0) (0)).n)) rfl rfl (y_ext rfl rfl rfl ⟨rfl, rfl⟩) ?_
  refine wl_alloc_stc (n := 2) (vs := [.int .i64 (0), .int .i64 (0)]) rfl rfl rfl (by kernel_rfl) fun p246 w247 B249 g250 k248 => ?_
  have gr251 : Grew w0 noB (onB p246) := Grew.new K245 g250
  have ap252 : Apart (onB p246) (T9) := Apart.new g250 (B235).live
  have ap253 : Apart (onB p246) (T10) := Apart.new g250 (B236).live
  have ap254 : Apart (onB p246) (T11) := Apart.new g250 (B237).live
  have ap255 : Apart (onB p246) (onB p25) := Apart.new g250 (onB_live (B238).lt)
  have ap256 : Apart (onB p246) (T54) := Apart.new g250 (B239).live
  have ap257 : Apart (onB p246) (T55) := Apart.new g250 (B240).live
  have ap258 : Apart (onB p246) (T56) := Apart.new g250 (B241).live
  have ap259 : Apart (onB p246) (onB p86) := Apart.new g250 (onB_live (B242).lt)
  have ap260 : Apart (onB p246) (onB p133) := Apart.new g250 (onB_live (B243).lt)
  have ap261 : Apart (onB p246) (onB p187) := Apart.new g250 (onB_live (B244).lt)
  have B262 := B235.all k248 Apart.none
  have B263 := B236.all k248 Apart.none
  have B264 := B237.all k248 Apart.none
  have B265 := B238.all k248 id
  have B266 := B239.all k248 Apart.none
  have B267 := B240.all k248 Apart.none
  have B268 := B241.all k248 Apart.none
  have B269 := B242.all k248 id
  have B270 := B243.all k248 id
  have B271 := B244.all k248 id
  have K272 := K245.trans k248 (fun _ _ x => x.elim)
  refine wl_store_stc (us := [.int .i64 ((srF (putFr (newF (8) (8) (20)) (0) (-3) (0) (blL [0, 0, 0, 10, 0, 0, 0, 20, 0, 0, 0, 20, 0, 0, 0, 20])) (0) (0) (0) (mvB (putFr (newF (8) (8) (20)) (0) (-3) (0) (blL [0, 0, 0, 10, 0, 0, 0, 20, 0, 0, 0, 20, 0, 0, 0, 20])) (0) (0) (0) (1) (0)) (0) (0)).X), .int .i64 ((srF (putFr (newF (8) (8) (20)) (0) (-3) (0) (blL [0, 0, 0, 10, 0, 0, 0, 20, 0, 0, 0, 20, 0, 0, 0, 20])) (0) (0) (0) (mvB (putFr (newF (8) (8) (20)) (0) (-3) (0) (blL [0, 0, 0, 10, 0, 0, 0, 20, 0, 0, 0, 20, 0, 0, 0, 20])) (0) (0) (0) (1) (0)) (0) (0)).Y)]) stcT_vector rfl rfl rfl rfl rfl B249 rfl (oneI rfl (oneI rfl oneN)) fun w273 B274 k275 => ?_
  have B276 := B262.all k275 (fun i h x => (((ap252).symm) i h x))
  have B277 := B263.all k275 (fun i h x => (((ap253).symm) i h x))
  have B278 := B264.all k275 (fun i h x => (((ap254).symm) i h x))
  have B279 := B265.all k275 (fun x => (((ap255).symm) p25 rfl x))
  have B280 := B266.all k275 (fun i h x => (((ap256).symm) i h x))
  have B281 := B267.all k275 (fun i h x => (((ap257).symm) i h x))
  have B282 := B268.all k275 (fun i h x => (((ap258).symm) i h x))
  have B283 := B269.all k275 (fun x => (((ap259).symm) p86 rfl x))
  have B284 := B270.all k275 (fun x => (((ap260).symm) p133 rfl x))
  have B285 := B271.all k275 (fun x => (((ap261).symm) p187 rfl x))
  have K286 := K272.trans k275 (Grew.ok (S := fun _ => False) gr251 noB_le)
  refine wl_v (.int .i64 ((srF (putFr (newF (8) (8) (20)) (0) (-3) (0) (blL [0, 0, 0, 10, 0, 0, 0, 20, 0, 0, 0, 20, 0, 0, 0, 20])) (0) (0) (0) (mvB (putFr (newF (8) (8) (20)) (0) (-3) (0) (blL [0, 0, 0, 10, 0, 0, 0, 20, 0, 0, 0, 20, 0, 0, 0, 20])) (0) (0) (0) (1) (0)) (0) (0)).n)) rfl rfl (y_asg rfl rfl ⟨rfl, rfl⟩) ?_
  refine wl_nil fun F287 hF288 => ?_
  have s289 : F287 87 = undef := (hF288 87).trans s228
  have s290 : F287 3 = .pointer (some ⟨p86, 0, none⟩) := (hF288 3).trans s229
  have s291 : F287 4 = .pointer (some ⟨p133, 0, none⟩) := (hF288 4).trans s230
  have s292 : F287 5 = .int .i64 (mvE (putFr (newF (8) (8) (20)) (0) (-3) (0) (blL [0, 0, 0, 10, 0, 0, 0, 20, 0, 0, 0, 20, 0, 0, 0, 20])) (0) (0) (0) (1) (0)) := (hF288 5).trans s231
  have s293 : F287 7 = .int .i64 (mvE (putFr (newF (8) (8) (20)) (0) (-3) (0) (blL [0, 0, 0, 10, 0, 0, 0, 20, 0, 0, 0, 20, 0, 0, 0, 20])) (0) (0) (0) (32) (0)) := (hF288 7).trans s232
  have s294 : F287 8 = .pointer (some ⟨p246, 0, none⟩) := (hF288 8).trans rfl
  have s295 : F287 9 = .int .i64 ((srF (putFr (newF (8) (8) (20)) (0) (-3) (0) (blL [0, 0, 0, 10, 0, 0, 0, 20, 0, 0, 0, 20, 0, 0, 0, 20])) (0) (0) (0) (mvB (putFr (newF (8) (8) (20)) (0) (-3) (0) (blL [0, 0, 0, 10, 0, 0, 0, 20, 0, 0, 0, 20, 0, 0, 0, 20])) (0) (0) (0) (1) (0)) (0) (0)).n) := (hF288 9).trans rfl
  clear hF288
  refine then_normal ?_
  refine wq_seq ?_
  refine wq_region ?_
  refine wl_v (.agg #[.int .i64 ((putFr (newF (8) (8) (20)) (0) (-3) (0) (blL [0, 0, 0, 10, 0, 0, 0, 20, 0, 0, 0, 20, 0, 0, 0, 20])).W), .int .i64 ((putFr (newF (8) (8) (20)) (0) (-3) (0) (blL [0, 0, 0, 10, 0, 0, 0, 20, 0, 0, 0, 20, 0, 0, 0, 20])).H), v49, v50, v51]) rfl rfl (y_load_stc stcT_frame rfl s290 B283 ⟨rfl, rfl⟩) ?_
  refine wl_call (R := fun v_ w_ => v_ = .int .i64 (smpF (putFr (newF (8) (8) (20)) (0) (-3) (0) (blL [0, 0, 0, 10, 0, 0, 0, 20, 0, 0, 0, 20, 0, 0, 0, 20])) (0) (0) (0)) ∧ Kept (fun _ => False) w273 w_) rfl rfl (y_cs rfl rfl rfl (fun _ _ => by kernel_rfl) (ev_func _) (vsC rfl (vsC rfl (vsC rfl (vsC rfl vsN)))) (mo_sample (0) (0) (0) (putFr (newF (8) (8) (20)) (0) (-3) (0) (blL [0, 0, 0, 10, 0, 0, 0, 20, 0, 0, 0, 20, 0, 0, 0, 20])) (v49) (v50) (v51) (T54) (T55) (T56) _  (B280).byt (B281).byt (B282).byt ) (fun e_ w_ h_ => ⟨_, h_.1, rfl, h_.2⟩)) ?_
  rintro _ w296 ⟨rfl, k297⟩
  have B298 := B276.all k297 Apart.none
  have B299 := B277.all k297 Apart.none
  have B300 := B278.all k297 Apart.none
  have B301 := B279.all k297 id
  have B302 := B280.all k297 Apart.none
  have B303 := B281.all k297 Apart.none
  have B304 := B282.all k297 Apart.none
  have B305 := B283.all k297 id
  have B306 := B284.all k297 id
  have B307 := B285.all k297 id
  have B308 := B274.all k297 id
  have K309 := K286.trans k297 (fun _ _ x => x.elim)
  refine wl_v (.bool true) rfl rfl (y_eqlI rfl rfl rfl (decide_eq_true hf.out.1) ⟨rfl, rfl⟩) ?_
  refine wl_v (.bool true) rfl rfl (y_mov rfl rfl ⟨rfl, rfl⟩) ?_
  refine wl_vw (.agg #[.int .i64 ((putFr (newF (8) (8) (20)) (0) (-3) (0) (blL [0, 0, 0, 10, 0, 0, 0, 20, 0, 0, 0, 20, 0, 0, 0, 20])).W), .int .i64 ((putFr (newF (8) (8) (20)) (0) (-3) (0) (blL [0, 0, 0, 10, 0, 0, 0, 20, 0, 0, 0, 20, 0, 0, 0, 20])).H), v49, v50, v51]) 3 true 39 rfl rfl rfl rfl rfl (y_load_stc stcT_frame rfl s290 B305 ⟨rfl, rfl⟩) ?_
  refine wl_callw (R := fun v_ w_ => v_ = .int .i64 (smpF (putFr (newF (8) (8) (20)) (0) (-3) (0) (blL [0, 0, 0, 10, 0, 0, 0, 20, 0, 0, 0, 20, 0, 0, 0, 20])) (0) (1) (0)) ∧ Kept (fun _ => False) w296 w_) 3 true 39 rfl rfl rfl rfl rfl (y_cs rfl rfl rfl (fun _ _ => by kernel_rfl) (ev_func _) (vsC rfl (vsC rfl (vsC rfl (vsC rfl vsN)))) (mo_sample (0) (1) (0) (putFr (newF (8) (8) (20)) (0) (-3) (0) (blL [0, 0, 0, 10, 0, 0, 0, 20, 0, 0, 0, 20, 0, 0, 0, 20])) (v49) (v50) (v51) (T54) (T55) (T56) _  (B302).byt (B303).byt (B304).byt ) (fun e_ w_ h_ => ⟨_, h_.1, rfl, h_.2⟩)) ?_
  rintro _ w310 ⟨rfl, k311⟩
  have B312 := B298.all k311 Apart.none
  have B313 := B299.all k311 Apart.none
  have B314 := B300.all k311 Apart.none
  have B315 := B301.all k311 id
  have B316 := B302.all k311 Apart.none
  have B317 := B303.all k311 Apart.none
  have B318 := B304.all k311 Apart.none
  have B319 := B305.all k311 id
  have B320 := B306.all k311 id
  have B321 := B307.all k311 id
  have B322 := B308.all k311 id
  have K323 := K309.trans k311 (fun _ _ x => x.elim)
  refine wl_vw (.bool true) 3 true 39 rfl rfl rfl rfl rfl (y_eqlI rfl rfl rfl (decide_eq_true hf.out.2.1) ⟨rfl, rfl⟩) ?_
  refine wl_v (.bool true) rfl rfl (y_pickT rfl rfl rfl ⟨rfl, rfl⟩) ?_
  refine wl_v (.bool true) rfl rfl (y_mov rfl rfl ⟨rfl, rfl⟩) ?_
  refine wl_vw (.agg #[.int .i64 ((putFr (newF (8) (8) (20)) (0) (-3) (0) (blL [0, 0, 0, 10, 0, 0, 0, 20, 0, 0, 0, 20, 0, 0, 0, 20])).W), .int .i64 ((putFr (newF (8) (8) (20)) (0) (-3) (0) (blL [0, 0, 0, 10, 0, 0, 0, 20, 0, 0, 0, 20, 0, 0, 0, 20])).H), v49, v50, v51]) 8 true 44 rfl rfl rfl rfl rfl (y_load_stc stcT_frame rfl s290 B319 ⟨rfl, rfl⟩) ?_
  refine wl_callw (R := fun v_ w_ => v_ = .int .i64 (smpF (putFr (newF (8) (8) (20)) (0) (-3) (0) (blL [0, 0, 0, 10, 0, 0, 0, 20, 0, 0, 0, 20, 0, 0, 0, 20])) (0) (2) (0)) ∧ Kept (fun _ => False) w310 w_) 8 true 44 rfl rfl rfl rfl rfl (y_cs rfl rfl rfl (fun _ _ => by kernel_rfl) (ev_func _) (vsC rfl (vsC rfl (vsC rfl (vsC rfl vsN)))) (mo_sample (0) (2) (0) (putFr (newF (8) (8) (20)) (0) (-3) (0) (blL [0, 0, 0, 10, 0, 0, 0, 20, 0, 0, 0, 20, 0, 0, 0, 20])) (v49) (v50) (v51) (T54) (T55) (T56) _  (B316).byt (B317).byt (B318).byt ) (fun e_ w_ h_ => ⟨_, h_.1, rfl, h_.2⟩)) ?_
  rintro _ w324 ⟨rfl, k325⟩
  have B326 := B312.all k325 Apart.none
  have B327 := B313.all k325 Apart.none
  have B328 := B314.all k325 Apart.none
  have B329 := B315.all k325 id
  have B330 := B316.all k325 Apart.none
  have B331 := B317.all k325 Apart.none
  have B332 := B318.all k325 Apart.none
  have B333 := B319.all k325 id
  have B334 := B320.all k325 id
  have B335 := B321.all k325 id
  have B336 := B322.all k325 id
  have K337 := K323.trans k325 (fun _ _ x => x.elim)
  refine wl_vw (.bool true) 8 true 44 rfl rfl rfl rfl rfl (y_eqlI rfl rfl rfl (decide_eq_true hf.out.2.2.1) ⟨rfl, rfl⟩) ?_
  refine wl_v (.bool true) rfl rfl (y_pickT rfl rfl rfl ⟨rfl, rfl⟩) ?_
  refine wl_v (.bool true) rfl rfl (y_mov rfl rfl ⟨rfl, rfl⟩) ?_
  refine wl_vw (.agg #[.int .i64 ((putFr (newF (8) (8) (20)) (0) (-3) (0) (blL [0, 0, 0, 10, 0, 0, 0, 20, 0, 0, 0, 20, 0, 0, 0, 20])).W), .int .i64 ((putFr (newF (8) (8) (20)) (0) (-3) (0) (blL [0, 0, 0, 10, 0, 0, 0, 20, 0, 0, 0, 20, 0, 0, 0, 20])).H), v49, v50, v51]) 13 true 49 rfl rfl rfl rfl rfl (y_load_stc stcT_frame rfl s290 B333 ⟨rfl, rfl⟩) ?_
  refine wl_callw (R := fun v_ w_ => v_ = .int .i64 (smpF (putFr (newF (8) (8) (20)) (0) (-3) (0) (blL [0, 0, 0, 10, 0, 0, 0, 20, 0, 0, 0, 20, 0, 0, 0, 20])) (0) (1) (1)) ∧ Kept (fun _ => False) w324 w_) 13 true 49 rfl rfl rfl rfl rfl (y_cs rfl rfl rfl (fun _ _ => by kernel_rfl) (ev_func _) (vsC rfl (vsC rfl (vsC rfl (vsC rfl vsN)))) (mo_sample (0) (1) (1) (putFr (newF (8) (8) (20)) (0) (-3) (0) (blL [0, 0, 0, 10, 0, 0, 0, 20, 0, 0, 0, 20, 0, 0, 0, 20])) (v49) (v50) (v51) (T54) (T55) (T56) _  (B330).byt (B331).byt (B332).byt ) (fun e_ w_ h_ => ⟨_, h_.1, rfl, h_.2⟩)) ?_
  rintro _ w338 ⟨rfl, k339⟩
  have B340 := B326.all k339 Apart.none
  have B341 := B327.all k339 Apart.none
  have B342 := B328.all k339 Apart.none
  have B343 := B329.all k339 id
  have B344 := B330.all k339 Apart.none
  have B345 := B331.all k339 Apart.none
  have B346 := B332.all k339 Apart.none
  have B347 := B333.all k339 id
  have B348 := B334.all k339 id
  have B349 := B335.all k339 id
  have B350 := B336.all k339 id
  have K351 := K337.trans k339 (fun _ _ x => x.elim)
  refine wl_vw (.bool true) 13 true 49 rfl rfl rfl rfl rfl (y_eqlI rfl rfl rfl (decide_eq_true hf.out.2.2.2.1) ⟨rfl, rfl⟩) ?_
  refine wl_v (.bool true) rfl rfl (y_pickT rfl rfl rfl ⟨rfl, rfl⟩) ?_
  refine wl_v (.bool true) rfl rfl (y_mov rfl rfl ⟨rfl, rfl⟩) ?_
  refine wl_vw (.pointer (some ⟨p133, 0, none⟩)) 18 true 54 rfl rfl rfl rfl rfl (y_atR (0) (s := 1) rfl s291 rfl (by omega) Try.underlying31 (by omega) (by kernel_rfl) (by omega) ⟨rfl, rfl⟩) ?_
  refine wl_vw (.int .i64 ((mvB (putFr (newF (8) (8) (20)) (0) (-3) (0) (blL [0, 0, 0, 10, 0, 0, 0, 20, 0, 0, 0, 20, 0, 0, 0, 20])) (0) (0) (0) (1) (0)) (0))) 18 true 54 rfl rfl rfl rfl rfl (y_ldR rfl rfl Try.underlying3 ((B348).cell (by omega)) ⟨rfl, rfl⟩) ?_
  refine wl_vw (.bool true) 18 true 54 rfl rfl rfl rfl rfl (y_eqlI rfl rfl rfl (decide_eq_true hf.out.2.2.2.2.1) ⟨rfl, rfl⟩) ?_
  refine wl_v (.bool true) rfl rfl (y_pickT rfl rfl rfl ⟨rfl, rfl⟩) ?_
  refine wl_v (.bool true) rfl rfl (y_mov rfl rfl ⟨rfl, rfl⟩) ?_
  refine wl_vw (.int .i64 (mvE (putFr (newF (8) (8) (20)) (0) (-3) (0) (blL [0, 0, 0, 10, 0, 0, 0, 20, 0, 0, 0, 20, 0, 0, 0, 20])) (0) (0) (0) (1) (0))) 23 true 59 rfl rfl rfl rfl rfl (y_mov rfl s292 ⟨rfl, rfl⟩) ?_
  refine wl_vw (.bool true) 23 true 59 rfl rfl rfl rfl rfl (y_eqlI rfl rfl rfl (decide_eq_true hf.out.2.2.2.2.2.1) ⟨rfl, rfl⟩) ?_
  refine wl_v (.bool true) rfl rfl (y_pickT rfl rfl rfl ⟨rfl, rfl⟩) ?_
  refine wl_v (.bool true) rfl rfl (y_mov rfl rfl ⟨rfl, rfl⟩) ?_
  refine wl_vw (.int .i64 (mvE (putFr (newF (8) (8) (20)) (0) (-3) (0) (blL [0, 0, 0, 10, 0, 0, 0, 20, 0, 0, 0, 20, 0, 0, 0, 20])) (0) (0) (0) (32) (0))) 27 true 63 rfl rfl rfl rfl rfl (y_mov rfl s293 ⟨rfl, rfl⟩) ?_
  refine wl_vw (.bool true) 27 true 63 rfl rfl rfl rfl rfl (y_eqlI rfl rfl rfl (decide_eq_true hf.out.2.2.2.2.2.2.1) ⟨rfl, rfl⟩) ?_
  refine wl_v (.bool true) rfl rfl (y_pickT rfl rfl rfl ⟨rfl, rfl⟩) ?_
  refine wl_v (.bool true) rfl rfl (y_mov rfl rfl ⟨rfl, rfl⟩) ?_
  refine wl_vw (.agg #[.int .i64 ((srF (putFr (newF (8) (8) (20)) (0) (-3) (0) (blL [0, 0, 0, 10, 0, 0, 0, 20, 0, 0, 0, 20, 0, 0, 0, 20])) (0) (0) (0) (mvB (putFr (newF (8) (8) (20)) (0) (-3) (0) (blL [0, 0, 0, 10, 0, 0, 0, 20, 0, 0, 0, 20, 0, 0, 0, 20])) (0) (0) (0) (1) (0)) (0) (0)).X), .int .i64 ((srF (putFr (newF (8) (8) (20)) (0) (-3) (0) (blL [0, 0, 0, 10, 0, 0, 0, 20, 0, 0, 0, 20, 0, 0, 0, 20])) (0) (0) (0) (mvB (putFr (newF (8) (8) (20)) (0) (-3) (0) (blL [0, 0, 0, 10, 0, 0, 0, 20, 0, 0, 0, 20, 0, 0, 0, 20])) (0) (0) (0) (1) (0)) (0) (0)).Y)]) 31 true 67 rfl rfl rfl rfl rfl (y_load_stc stcT_vector rfl s294 B350 ⟨rfl, rfl⟩) ?_
  refine wl_vw (.agg #[.int .i64 (1), .int .i64 (0)]) 31 true 67 rfl rfl rfl rfl rfl (y_buildL (l' := [(0, .int .i64 (1))]) (cells := #[.int .i64 (1), .int .i64 (0)]) rfl (bpC rfl bpN) (by kernel_rfl) rfl ⟨rfl, rfl⟩) ?_
  refine wl_vw (.bool true) 31 true 67 rfl rfl rfl rfl rfl (y_eqlVec rfl rfl rfl ((by have e1 := hg.out.1; have e2 := hg.out.2.1; unfold g9 at e1 e2; rw [e1, e2]; rfl)) ⟨rfl, rfl⟩) ?_
  refine wl_v (.bool true) rfl rfl (y_pickT rfl rfl rfl ⟨rfl, rfl⟩) ?_
  refine wl_v (.bool true) rfl rfl (y_mov rfl rfl ⟨rfl, rfl⟩) ?_
  refine wl_vw (.int .i64 ((srF (putFr (newF (8) (8) (20)) (0) (-3) (0) (blL [0, 0, 0, 10, 0, 0, 0, 20, 0, 0, 0, 20, 0, 0, 0, 20])) (0) (0) (0) (mvB (putFr (newF (8) (8) (20)) (0) (-3) (0) (blL [0, 0, 0, 10, 0, 0, 0, 20, 0, 0, 0, 20, 0, 0, 0, 20])) (0) (0) (0) (1) (0)) (0) (0)).n)) 36 true 72 rfl rfl rfl rfl rfl (y_mov rfl s295 ⟨rfl, rfl⟩) ?_
  refine wl_vw (.bool true) 36 true 72 rfl rfl rfl rfl rfl (y_eqlI rfl rfl rfl (decide_eq_true hg.out.2.2) ⟨rfl, rfl⟩) ?_
  refine wl_v (.bool true) rfl rfl (y_pickT rfl rfl rfl ⟨rfl, rfl⟩) ?_
  refine wl_v (.bool true) rfl rfl (y_mov rfl rfl ⟨rfl, rfl⟩) ?_
  refine wl_vw (blkV (blL [1])) 40 true 76 rfl rfl rfl rfl rfl (y_buildR (cells := (arrL 16 (blL [1])).toArray) rfl (by kernel_rfl) rfl ⟨rfl, rfl⟩) ?_
  refine wl_vw (blkV (blL [4])) 40 true 76 rfl rfl rfl rfl rfl (y_buildR (cells := (arrL 16 (blL [4])).toArray) rfl (by kernel_rfl) rfl ⟨rfl, rfl⟩) ?_
  refine wl_callw (R := fun v_ w_ => v_ = blkV (bothB (blL [1]) (blL [4])) ∧ Kept (fun _ => False) w338 w_) 40 true 76 rfl rfl rfl rfl rfl (y_cs rfl rfl rfl (fun _ _ => by kernel_rfl) (ev_func _) (vsC rfl (vsC rfl vsN)) (mo_both (blL [1]) (blL [4])  _   ) (fun e_ w_ h_ => ⟨_, h_.1, rfl, h_.2⟩)) ?_
  rintro _ w352 ⟨rfl, k353⟩
  have B354 := B340.all k353 Apart.none
  have B355 := B341.all k353 Apart.none
  have B356 := B342.all k353 Apart.none
  have B357 := B343.all k353 id
  have B358 := B344.all k353 Apart.none
  have B359 := B345.all k353 Apart.none
  have B360 := B346.all k353 Apart.none
  have B361 := B347.all k353 id
  have B362 := B348.all k353 id
  have B363 := B349.all k353 id
  have B364 := B350.all k353 id
  have K365 := K351.trans k353 (fun _ _ x => x.elim)
  refine wl_vw (.int .i64 ((bothB (blL [1]) (blL [4])) (0))) 40 true 76 rfl rfl rfl rfl rfl (y_look (0) blkT_block rfl rfl rfl (by omega) rfl ⟨rfl, rfl⟩) ?_
  refine wl_vw (.bool true) 40 true 76 rfl rfl rfl rfl rfl (y_eqlI rfl rfl rfl (decide_eq_true hf.out.2.2.2.2.2.2.2) ⟨rfl, rfl⟩) ?_
  refine wl_v (.bool true) rfl rfl (y_pickT rfl rfl rfl ⟨rfl, rfl⟩) ?_
  refine wl_v (.bool true) rfl rfl (y_mov rfl rfl ⟨rfl, rfl⟩) ?_
  refine wl_v (.bool true) rfl rfl (y_pickT rfl rfl rfl ⟨rfl, rfl⟩) ?_
  refine wl_v (.bool true) rfl rfl (y_mov rfl rfl ⟨rfl, rfl⟩) ?_
  refine wl_v (.bool true) rfl rfl (y_pickT rfl rfl rfl ⟨rfl, rfl⟩) ?_
  refine wl_v (.bool true) rfl rfl (y_asg rfl rfl ⟨rfl, rfl⟩) ?_
  refine wl_nil fun F366 hF367 => ?_
  have s368 : F366 87 = undef := (hF367 87).trans s289
  have s369 : F366 0 = .bool true := (hF367 0).trans rfl
  clear hF367
  refine then_normal ?_
  refine wq_ret ?_
  exact end_tmp (v := .bool true) s368 rfl rfl s369 ⟨rfl, K365⟩

set_option maxHeartbeats 4000000 in
set_option maxRecDepth 100000 in
theorem mtells_walk (f : FD) (f0 f1 f2 : Value) (p x y X Y : Int) (a b : Nat → Int) (T_f0 : Nat → Prop) (T_f1 : Nat → Prop) (T_f2 : Nat → Prop) (w0 : World) (h_f0 : Byt w0 T_f0 f0 ((f).p0)) (h_f1 : Byt w0 T_f1 f1 ((f).p1)) (h_f2 : Byt w0 T_f2 f2 ((f).p2)) :
    Calls Try.prog 3 #[.agg #[.int .i64 ((f).W), .int .i64 ((f).H), f0, f1, f2], .int .i64 (p), .int .i64 (x), .int .i64 (y), .agg #[.int .i64 (X), .int .i64 (Y)], blkV (a), blkV (b)] w0 fun e w' => e = .returned (.bool true) ∧ Kept (fun _ => False) w0 w' := by
  refine calls_wq (args := [.agg #[.int .i64 ((f).W), .int .i64 ((f).H), f0, f1, f2], .int .i64 (p), .int .i64 (x), .int .i64 (y), .agg #[.int .i64 (X), .int .i64 (Y)], blkV (a), blkV (b)]) 83 Try.func3 rfl rfl (Nat.le_of_ble_eq_true rfl) ?_
  have K0 := Kept.refl (fun _ => False) w0
  have g_f0 := Grew.refl w0 T_f0
  have g_f1 := Grew.refl w0 T_f1
  have g_f2 := Grew.refl w0 T_f2
  refine wq_seq ?_
  refine wq_region ?_
  refine wl_box_stc (vs := [.int .i64 ((f).W), .int .i64 ((f).H), f0, f1, f2]) rfl rfl rfl rfl fun p1 w2 B4 g5 k3 => ?_
  have gr6 : Grew w0 noB (onB p1) := Grew.new K0 g5
  have ap7 : Apart (onB p1) (T_f0) := Apart.new g5 (h_f0).live
  have ap8 : Apart (onB p1) (T_f1) := Apart.new g5 (h_f1).live
  have ap9 : Apart (onB p1) (T_f2) := Apart.new g5 (h_f2).live
  have B10 := h_f0.all k3 Apart.none
  have B11 := h_f1.all k3 Apart.none
  have B12 := h_f2.all k3 Apart.none
  have K13 := K0.trans k3 (fun _ _ x => x.elim)
  refine wl_box_stc (vs := [.int .i64 (X), .int .i64 (Y)]) rfl rfl rfl rfl fun p14 w15 B17 g18 k16 => ?_
  have gr19 : Grew w0 noB (onB p14) := Grew.new K13 g18
  have ap20 : Apart (onB p14) (T_f0) := Apart.new g18 (B10).live
  have ap21 : Apart (onB p14) (T_f1) := Apart.new g18 (B11).live
  have ap22 : Apart (onB p14) (T_f2) := Apart.new g18 (B12).live
  have ap23 : Apart (onB p14) (onB p1) := Apart.new g18 (onB_live (B4).lt)
  have B24 := B10.all k16 Apart.none
  have B25 := B11.all k16 Apart.none
  have B26 := B12.all k16 Apart.none
  have B27 := B4.all k16 id
  have K28 := K13.trans k16 (fun _ _ x => x.elim)
  refine wl_box_blk rfl rfl rfl rfl fun p29 w30 e33 B31 k32 => ?_
  have g34 := onB_new (Nat.le_of_eq e33.symm)
  have gr35 : Grew w0 noB (onB p29) := Grew.new K28 g34
  have ap36 : Apart (onB p29) (T_f0) := Apart.new g34 (B24).live
  have ap37 : Apart (onB p29) (T_f1) := Apart.new g34 (B25).live
  have ap38 : Apart (onB p29) (T_f2) := Apart.new g34 (B26).live
  have ap39 : Apart (onB p29) (onB p1) := Apart.new g34 (onB_live (B27).lt)
  have ap40 : Apart (onB p29) (onB p14) := Apart.new g34 (onB_live (B17).lt)
  clear e33 g34
  have B41 := B24.all k32 Apart.none
  have B42 := B25.all k32 Apart.none
  have B43 := B26.all k32 Apart.none
  have B44 := B27.all k32 id
  have B45 := B17.all k32 id
  have K46 := K28.trans k32 (fun _ _ x => x.elim)
  refine wl_box_blk rfl rfl rfl rfl fun p47 w48 e51 B49 k50 => ?_
  have g52 := onB_new (Nat.le_of_eq e51.symm)
  have gr53 : Grew w0 noB (onB p47) := Grew.new K46 g52
  have ap54 : Apart (onB p47) (T_f0) := Apart.new g52 (B41).live
  have ap55 : Apart (onB p47) (T_f1) := Apart.new g52 (B42).live
  have ap56 : Apart (onB p47) (T_f2) := Apart.new g52 (B43).live
  have ap57 : Apart (onB p47) (onB p1) := Apart.new g52 (onB_live (B44).lt)
  have ap58 : Apart (onB p47) (onB p14) := Apart.new g52 (onB_live (B45).lt)
  have ap59 : Apart (onB p47) (onB p29) := Apart.new g52 (onB_live (B31).lt)
  clear e51 g52
  have B60 := B41.all k50 Apart.none
  have B61 := B42.all k50 Apart.none
  have B62 := B43.all k50 Apart.none
  have B63 := B44.all k50 id
  have B64 := B45.all k50 id
  have B65 := B31.all k50 id
  have K66 := K46.trans k50 (fun _ _ x => x.elim)
  refine wl_v (.bool false) rfl rfl (y_asg rfl rfl ⟨rfl, rfl⟩) ?_
  refine wl_nil fun F67 hF68 => ?_
  have s69 : F67 1 = .int .i64 (p) := (hF68 1).trans rfl
  have s70 : F67 2 = .int .i64 (x) := (hF68 2).trans rfl
  have s71 : F67 3 = .int .i64 (y) := (hF68 3).trans rfl
  have s72 : F67 83 = undef := (hF68 83).trans rfl
  have s73 : F67 7 = .pointer (some ⟨p1, 0, none⟩) := (hF68 7).trans rfl
  have s74 : F67 11 = .pointer (some ⟨p14, 0, none⟩) := (hF68 11).trans rfl
  have s75 : F67 12 = .pointer (some ⟨p29, 0, none⟩) := (hF68 12).trans rfl
  have s76 : F67 13 = .pointer (some ⟨p47, 0, none⟩) := (hF68 13).trans rfl
  clear hF68
  refine then_normal ?_
  refine wq_seq ?_
  refine wq_region ?_
  refine wl_call (R := fun v_ w_ => v_ = .bool true ∧ Kept (fun _ => False) w48 w_) rfl rfl (y_cs rfl rfl rfl (fun _ _ => by kernel_rfl) (ev_func _) vsN (mawake   _   ) (fun e_ w_ h_ => ⟨_, h_.1, rfl, h_.2⟩)) ?_
  rintro _ w77 ⟨rfl, k78⟩
  have B79 := B60.all k78 Apart.none
  have B80 := B61.all k78 Apart.none
  have B81 := B62.all k78 Apart.none
  have B82 := B63.all k78 id
  have B83 := B64.all k78 id
  have B84 := B65.all k78 id
  have B85 := B49.all k78 id
  have K86 := K66.trans k78 (fun _ _ x => x.elim)
  refine wl_v (.bool true) rfl rfl (y_asg rfl rfl ⟨rfl, rfl⟩) ?_
  refine wl_nil fun F87 hF88 => ?_
  have s89 : F87 1 = .int .i64 (p) := (hF88 1).trans s69
  have s90 : F87 2 = .int .i64 (x) := (hF88 2).trans s70
  have s91 : F87 3 = .int .i64 (y) := (hF88 3).trans s71
  have s92 : F87 83 = undef := (hF88 83).trans s72
  have s93 : F87 7 = .pointer (some ⟨p1, 0, none⟩) := (hF88 7).trans s73
  have s94 : F87 11 = .pointer (some ⟨p14, 0, none⟩) := (hF88 11).trans s74
  have s95 : F87 12 = .pointer (some ⟨p29, 0, none⟩) := (hF88 12).trans s75
  have s96 : F87 13 = .pointer (some ⟨p47, 0, none⟩) := (hF88 13).trans s76
  have s97 : F87 15 = .bool true := (hF88 15).trans rfl
  clear hF88
  refine then_normal ?_
  refine wq_seq ?_
  refine wq_seq ?_
  rcases Bool.eq_false_or_eq_true (fewF (f)) with d98 | d98
  · skip
    refine wq_region ?_
    refine wl_v (.agg #[.int .i64 ((f).W), .int .i64 ((f).H), f0, f1, f2]) rfl rfl (y_load_stc stcT_frame rfl s93 B82 ⟨rfl, rfl⟩) ?_
    refine wl_call (R := fun v_ w_ => v_ = .bool true ∧ Kept (fun _ => False) w77 w_) rfl rfl (y_cs rfl rfl rfl (fun _ _ => by kernel_rfl) (ev_func _) (vsC rfl vsN) (flaw_few (f) (f0) (f1) (f2) (T_f0) (T_f1) (T_f2) _  B79 B80 B81 ) (fun e_ w_ h_ => ⟨_, h_.1, (congrArg Value.bool d98), h_.2⟩)) ?_
    rintro _ w99 ⟨rfl, k100⟩
    have B101 := B79.all k100 Apart.none
    have B102 := B80.all k100 Apart.none
    have B103 := B81.all k100 Apart.none
    have B104 := B82.all k100 id
    have B105 := B83.all k100 id
    have B106 := B84.all k100 id
    have B107 := B85.all k100 id
    have K108 := K86.trans k100 (fun _ _ x => x.elim)
    refine wl_v (.bool false) rfl rfl (y_not rfl rfl rfl ⟨rfl, rfl⟩) ?_
    refine wl_nil fun F109 hF110 => ?_
    have s111 : F109 1 = .int .i64 (p) := (hF110 1).trans s89
    have s112 : F109 2 = .int .i64 (x) := (hF110 2).trans s90
    have s113 : F109 3 = .int .i64 (y) := (hF110 3).trans s91
    have s114 : F109 83 = undef := (hF110 83).trans s92
    have s115 : F109 7 = .pointer (some ⟨p1, 0, none⟩) := (hF110 7).trans s93
    have s116 : F109 11 = .pointer (some ⟨p14, 0, none⟩) := (hF110 11).trans s94
    have s117 : F109 12 = .pointer (some ⟨p29, 0, none⟩) := (hF110 12).trans s95
    have s118 : F109 13 = .pointer (some ⟨p47, 0, none⟩) := (hF110 13).trans s96
    have s119 : F109 15 = .bool true := (hF110 15).trans s97
    have s120 : F109 23 = .bool false := (hF110 23).trans rfl
    clear hF110
    refine then_normal ?_
    refine wq_cond (t := false) s120 (fun e => by cases e) (fun _ => ?_)
    refine wq_skip ?_
    refine then_normal ?_
    refine wq_seq ?_
    refine wq_region ?_
    refine wl_v (.agg #[.int .i64 ((f).W), .int .i64 ((f).H), f0, f1, f2]) rfl rfl (y_load_stc stcT_frame rfl s115 B104 ⟨rfl, rfl⟩) ?_
    refine wl_v (.int .i64 (p)) rfl rfl (y_mov rfl s111 ⟨rfl, rfl⟩) ?_
    refine wl_v (.int .i64 (x)) rfl rfl (y_mov rfl s112 ⟨rfl, rfl⟩) ?_
    refine wl_v (.int .i64 (y)) rfl rfl (y_mov rfl s113 ⟨rfl, rfl⟩) ?_
    refine wl_v (.agg #[.int .i64 (X), .int .i64 (Y)]) rfl rfl (y_load_stc stcT_vector rfl s116 B105 ⟨rfl, rfl⟩) ?_
    refine wl_call (R := fun v_ w_ => v_ = .tuple #[blkV (mvB (f) (p) (x) (y) (X) (Y)), .int .i64 (mvE (f) (p) (x) (y) (X) (Y))] ∧ Kept (fun _ => False) w99 w_) rfl rfl (y_cs rfl rfl rfl (fun _ _ => by kernel_rfl) (ev_func _) (vsC rfl (vsC rfl (vsC rfl (vsC rfl (vsC rfl vsN))))) (mo_predict (p) (x) (y) (X) (Y) (f) (f0) (f1) (f2) (T_f0) (T_f1) (T_f2) _  B101 B102 B103 ) (fun e_ w_ h_ => ⟨_, h_.1, rfl, h_.2⟩)) ?_
    rintro _ w121 ⟨rfl, k122⟩
    have B123 := B101.all k122 Apart.none
    have B124 := B102.all k122 Apart.none
    have B125 := B103.all k122 Apart.none
    have B126 := B104.all k122 id
    have B127 := B105.all k122 id
    have B128 := B106.all k122 id
    have B129 := B107.all k122 id
    have K130 := K108.trans k122 (fun _ _ x => x.elim)
    refine wl_v (.tuple #[blkV (mvB (f) (p) (x) (y) (X) (Y)), .int .i64 (mvE (f) (p) (x) (y) (X) (Y))]) rfl rfl (y_mov rfl rfl ⟨rfl, rfl⟩) ?_
    refine wl_v (blkV (mvB (f) (p) (x) (y) (X) (Y))) rfl rfl (y_ext rfl rfl rfl ⟨rfl, rfl⟩) ?_
    refine wl_v (.int .i64 (mvE (f) (p) (x) (y) (X) (Y))) rfl rfl (y_ext rfl rfl rfl ⟨rfl, rfl⟩) ?_
    refine wl_alloc_blk rfl rfl rfl blkT_block.2.2 fun p131 w132 e135 B133 k134 => ?_
    have g136 := onB_new (Nat.le_of_eq e135.symm)
    have gr137 : Grew w0 noB (onB p131) := Grew.new K130 g136
    have ap138 : Apart (onB p131) (T_f0) := Apart.new g136 (B123).live
    have ap139 : Apart (onB p131) (T_f1) := Apart.new g136 (B124).live
    have ap140 : Apart (onB p131) (T_f2) := Apart.new g136 (B125).live
    have ap141 : Apart (onB p131) (onB p1) := Apart.new g136 (onB_live (B126).lt)
    have ap142 : Apart (onB p131) (onB p14) := Apart.new g136 (onB_live (B127).lt)
    have ap143 : Apart (onB p131) (onB p29) := Apart.new g136 (onB_live (B128).lt)
    have ap144 : Apart (onB p131) (onB p47) := Apart.new g136 (onB_live (B129).lt)
    clear e135 g136
    have B145 := B123.all k134 Apart.none
    have B146 := B124.all k134 Apart.none
    have B147 := B125.all k134 Apart.none
    have B148 := B126.all k134 id
    have B149 := B127.all k134 id
    have B150 := B128.all k134 id
    have B151 := B129.all k134 id
    have K152 := K130.trans k134 (fun _ _ x => x.elim)
    refine wl_store_blk blkT_block rfl rfl rfl rfl rfl B133 fun w153 B154 k155 => ?_
    have B156 := B145.all k155 (fun i h x => (((ap138).symm) i h x))
    have B157 := B146.all k155 (fun i h x => (((ap139).symm) i h x))
    have B158 := B147.all k155 (fun i h x => (((ap140).symm) i h x))
    have B159 := B148.all k155 (fun x => (((ap141).symm) p1 rfl x))
    have B160 := B149.all k155 (fun x => (((ap142).symm) p14 rfl x))
    have B161 := B150.all k155 (fun x => (((ap143).symm) p29 rfl x))
    have B162 := B151.all k155 (fun x => (((ap144).symm) p47 rfl x))
    have K163 := K152.trans k155 (Grew.ok (S := fun _ => False) gr137 noB_le)
    refine wl_v (.int .i64 (mvE (f) (p) (x) (y) (X) (Y))) rfl rfl (y_asg rfl rfl ⟨rfl, rfl⟩) ?_
    refine wl_nil fun F164 hF165 => ?_
    have s166 : F164 1 = .int .i64 (p) := (hF165 1).trans s111
    have s167 : F164 2 = .int .i64 (x) := (hF165 2).trans s112
    have s168 : F164 3 = .int .i64 (y) := (hF165 3).trans s113
    have s169 : F164 83 = undef := (hF165 83).trans s114
    have s170 : F164 7 = .pointer (some ⟨p1, 0, none⟩) := (hF165 7).trans s115
    have s171 : F164 11 = .pointer (some ⟨p14, 0, none⟩) := (hF165 11).trans s116
    have s172 : F164 12 = .pointer (some ⟨p29, 0, none⟩) := (hF165 12).trans s117
    have s173 : F164 13 = .pointer (some ⟨p47, 0, none⟩) := (hF165 13).trans s118
    have s174 : F164 15 = .bool true := (hF165 15).trans s119
    have s175 : F164 16 = .pointer (some ⟨p131, 0, none⟩) := (hF165 16).trans rfl
    have s176 : F164 17 = .int .i64 (mvE (f) (p) (x) (y) (X) (Y)) := (hF165 17).trans rfl
    clear hF165
    refine then_normal ?_
    refine wq_seq ?_
    refine wq_region ?_
    refine wl_v (.agg #[.int .i64 ((f).W), .int .i64 ((f).H), f0, f1, f2]) rfl rfl (y_load_stc stcT_frame rfl s170 B159 ⟨rfl, rfl⟩) ?_
    refine wl_v (.int .i64 (p)) rfl rfl (y_mov rfl s166 ⟨rfl, rfl⟩) ?_
    refine wl_v (.int .i64 (x)) rfl rfl (y_mov rfl s167 ⟨rfl, rfl⟩) ?_
    refine wl_v (.int .i64 (y)) rfl rfl (y_mov rfl s168 ⟨rfl, rfl⟩) ?_
    refine wl_v (.agg #[.int .i64 (X), .int .i64 (Y)]) rfl rfl (y_load_stc stcT_vector rfl s171 B160 ⟨rfl, rfl⟩) ?_
    refine wl_call (R := fun v_ w_ => v_ = .tuple #[blkV (mvB (f) (p) (x) (y) (X) (Y)), .int .i64 (mvE (f) (p) (x) (y) (X) (Y))] ∧ Kept (fun _ => False) w153 w_) rfl rfl (y_cs rfl rfl rfl (fun _ _ => by kernel_rfl) (ev_func _) (vsC rfl (vsC rfl (vsC rfl (vsC rfl (vsC rfl vsN))))) (mref_predict (p) (x) (y) (X) (Y) (f) (f0) (f1) (f2) (T_f0) (T_f1) (T_f2) _  B156 B157 B158 ) (fun e_ w_ h_ => ⟨_, h_.1, rfl, h_.2⟩)) ?_
    rintro _ w177 ⟨rfl, k178⟩
    have B179 := B156.all k178 Apart.none
    have B180 := B157.all k178 Apart.none
    have B181 := B158.all k178 Apart.none
    have B182 := B159.all k178 id
    have B183 := B160.all k178 id
    have B184 := B161.all k178 id
    have B185 := B162.all k178 id
    have B186 := B154.all k178 id
    have K187 := K163.trans k178 (fun _ _ x => x.elim)
    refine wl_v (.tuple #[blkV (mvB (f) (p) (x) (y) (X) (Y)), .int .i64 (mvE (f) (p) (x) (y) (X) (Y))]) rfl rfl (y_mov rfl rfl ⟨rfl, rfl⟩) ?_
    refine wl_v (blkV (mvB (f) (p) (x) (y) (X) (Y))) rfl rfl (y_ext rfl rfl rfl ⟨rfl, rfl⟩) ?_
    refine wl_v (.int .i64 (mvE (f) (p) (x) (y) (X) (Y))) rfl rfl (y_ext rfl rfl rfl ⟨rfl, rfl⟩) ?_
    refine wl_alloc_blk rfl rfl rfl blkT_arr.2.2 fun p188 w189 e192 B190 k191 => ?_
    have g193 := onB_new (Nat.le_of_eq e192.symm)
    have gr194 : Grew w0 noB (onB p188) := Grew.new K187 g193
    have ap195 : Apart (onB p188) (T_f0) := Apart.new g193 (B179).live
    have ap196 : Apart (onB p188) (T_f1) := Apart.new g193 (B180).live
    have ap197 : Apart (onB p188) (T_f2) := Apart.new g193 (B181).live
    have ap198 : Apart (onB p188) (onB p1) := Apart.new g193 (onB_live (B182).lt)
    have ap199 : Apart (onB p188) (onB p14) := Apart.new g193 (onB_live (B183).lt)
    have ap200 : Apart (onB p188) (onB p29) := Apart.new g193 (onB_live (B184).lt)
    have ap201 : Apart (onB p188) (onB p47) := Apart.new g193 (onB_live (B185).lt)
    have ap202 : Apart (onB p188) (onB p131) := Apart.new g193 (onB_live (B186).lt)
    clear e192 g193
    have B203 := B179.all k191 Apart.none
    have B204 := B180.all k191 Apart.none
    have B205 := B181.all k191 Apart.none
    have B206 := B182.all k191 id
    have B207 := B183.all k191 id
    have B208 := B184.all k191 id
    have B209 := B185.all k191 id
    have B210 := B186.all k191 id
    have K211 := K187.trans k191 (fun _ _ x => x.elim)
    refine wl_store_blk blkT_arr rfl rfl rfl rfl rfl B190 fun w212 B213 k214 => ?_
    have B215 := B203.all k214 (fun i h x => (((ap195).symm) i h x))
    have B216 := B204.all k214 (fun i h x => (((ap196).symm) i h x))
    have B217 := B205.all k214 (fun i h x => (((ap197).symm) i h x))
    have B218 := B206.all k214 (fun x => (((ap198).symm) p1 rfl x))
    have B219 := B207.all k214 (fun x => (((ap199).symm) p14 rfl x))
    have B220 := B208.all k214 (fun x => (((ap200).symm) p29 rfl x))
    have B221 := B209.all k214 (fun x => (((ap201).symm) p47 rfl x))
    have B222 := B210.all k214 (fun x => (((ap202).symm) p131 rfl x))
    have K223 := K211.trans k214 (Grew.ok (S := fun _ => False) gr194 noB_le)
    refine wl_v (.int .i64 (mvE (f) (p) (x) (y) (X) (Y))) rfl rfl (y_asg rfl rfl ⟨rfl, rfl⟩) ?_
    refine wl_nil fun F224 hF225 => ?_
    have s226 : F224 1 = .int .i64 (p) := (hF225 1).trans s166
    have s227 : F224 2 = .int .i64 (x) := (hF225 2).trans s167
    have s228 : F224 3 = .int .i64 (y) := (hF225 3).trans s168
    have s229 : F224 83 = undef := (hF225 83).trans s169
    have s230 : F224 7 = .pointer (some ⟨p1, 0, none⟩) := (hF225 7).trans s170
    have s231 : F224 11 = .pointer (some ⟨p14, 0, none⟩) := (hF225 11).trans s171
    have s232 : F224 12 = .pointer (some ⟨p29, 0, none⟩) := (hF225 12).trans s172
    have s233 : F224 13 = .pointer (some ⟨p47, 0, none⟩) := (hF225 13).trans s173
    have s234 : F224 15 = .bool true := (hF225 15).trans s174
    have s235 : F224 16 = .pointer (some ⟨p131, 0, none⟩) := (hF225 16).trans s175
    have s236 : F224 17 = .int .i64 (mvE (f) (p) (x) (y) (X) (Y)) := (hF225 17).trans s176
    have s237 : F224 18 = .pointer (some ⟨p188, 0, none⟩) := (hF225 18).trans rfl
    have s238 : F224 19 = .int .i64 (mvE (f) (p) (x) (y) (X) (Y)) := (hF225 19).trans rfl
    clear hF225
    refine then_normal ?_
    refine wq_seq ?_
    refine wq_said [some 43, some 44, some 45, some 46, some 47, some 48, some 49, some 50, some 51, some 52, some 53, some 54, some 55, some 56, some 57, some 58, some 59, some 60, some 61, some 62, some 63, some 64, some 65, some 66, some 67, some 68, some 69, some 70, some 71, some 72, some 73, some 74, some 75, some 76, some 77, some 78, some 79, some 80, some 81, some 82, some 14] [Pd.eq (.bool true), Pd.eq (.bool true), Pd.eq (.agg #[.int .i64 (X), .int .i64 (Y)]), Pd.eq (.int .i64 (vecE (X) (Y))), Pd.eq (.agg #[.int .i64 (X), .int .i64 (Y)]), Pd.eq (.int .i64 (vecE (X) (Y))), Pd.eq (.bool true), Pd.eq (.bool true), Pd.eq (.bool true), Pd.eq (.agg #[.int .i64 ((f).W), .int .i64 ((f).H), f0, f1, f2]), Pd.eq (.int .i64 (p)), Pd.eq (.int .i64 (x)), Pd.eq (.int .i64 (y)), Pd.eq (.int .i64 (smpF (f) (p) (x) (y))), Pd.eq (.agg #[.int .i64 ((f).W), .int .i64 ((f).H), f0, f1, f2]), Pd.eq (.int .i64 (p)), Pd.eq (.int .i64 (x)), Pd.eq (.int .i64 (y)), Pd.eq (.int .i64 (smpF (f) (p) (x) (y))), Pd.eq (.bool true), Pd.eq (.bool true), Pd.eq (.bool true), Pd.eq (blkV (mvB (f) (p) (x) (y) (X) (Y))), Pd.eq (blkV (mvB (f) (p) (x) (y) (X) (Y))), Pd.eq (.bool true), Pd.eq (.bool true), Pd.eq (.bool true), Pd.eq (.int .i64 (mvE (f) (p) (x) (y) (X) (Y))), Pd.eq (.int .i64 (mvE (f) (p) (x) (y) (X) (Y))), Pd.eq (.bool true), Pd.eq (.bool true), Pd.eq (.bool true), Pd.eq (blkV (a)), Pd.eq (blkV (b)), Pd.eq (blkV (bothB (a) (b))), Pd.eq (blkV (a)), Pd.eq (blkV (b)), Pd.eq (blkV (bothB (a) (b))), Pd.eq (.bool true), Pd.eq (.bool true), Pd.eq (.bool true)] (by kernel_rfl) (by kernel_rfl) ?_ ?_
    · refine stepsF_cons ?_ ?_
      · refine StepF.one rfl fun F_ w_ hR hout hD => ?_
        exact (y_mov rfl ((hout 15 rfl (by decide)).trans s234) ⟨rfl, Kept.refl _ _⟩)
      refine stepsF_cons ?_ ?_
      · refine StepF.one rfl fun F_ w_ hR hout hD => ?_
        have g43 : F_ 43 = .bool true := hD.get 0 rfl rfl rfl
        exact (y_mov rfl g43 ⟨rfl, Kept.refl _ _⟩)
      refine stepsF_cons ?_ ?_
      · refine StepF.when 1 true 44 rfl rfl fun F_ w_ hR hout hD => ?_
        have g44 : F_ 44 = .bool true := hD.get 0 rfl rfl rfl
        exact ⟨g44, (y_load_stc stcT_vector rfl ((hout 11 rfl (by decide)).trans s231) (B219.all hR id) ⟨rfl, Kept.refl _ _⟩)⟩
      refine stepsF_cons ?_ ?_
      · refine StepF.when 1 true 44 rfl rfl fun F_ w_ hR hout hD => ?_
        have g44 : F_ 44 = .bool true := hD.get 1 rfl rfl rfl
        have g45 : F_ 45 = .agg #[.int .i64 (X), .int .i64 (Y)] := hD.get 0 rfl rfl rfl
        exact ⟨g44, (y_cs rfl rfl rfl (fun _ _ => by kernel_rfl) (ev_func _) (vsC g45 vsN) (mo_check (X) (Y)  _   ) (fun e_ w_ h_ => ⟨_, h_.1, rfl, h_.2⟩))⟩
      refine stepsF_cons ?_ ?_
      · refine StepF.when 1 true 44 rfl rfl fun F_ w_ hR hout hD => ?_
        have g44 : F_ 44 = .bool true := hD.get 0 rfl rfl rfl
        exact ⟨g44, (y_load_stc stcT_vector rfl ((hout 11 rfl (by decide)).trans s231) (B219.all hR id) ⟨rfl, Kept.refl _ _⟩)⟩
      refine stepsF_cons ?_ ?_
      · refine StepF.when 1 true 44 rfl rfl fun F_ w_ hR hout hD => ?_
        have g44 : F_ 44 = .bool true := hD.get 2 rfl rfl rfl
        have g47 : F_ 47 = .agg #[.int .i64 (X), .int .i64 (Y)] := hD.get 0 rfl rfl rfl
        exact ⟨g44, (y_cs rfl rfl rfl (fun _ _ => by kernel_rfl) (ev_func _) (vsC g47 vsN) (mref_check (X) (Y)  _   ) (fun e_ w_ h_ => ⟨_, h_.1, rfl, h_.2⟩))⟩
      refine stepsF_cons ?_ ?_
      · refine StepF.when 1 true 44 rfl rfl fun F_ w_ hR hout hD => ?_
        have g44 : F_ 44 = .bool true := hD.get 2 rfl rfl rfl
        have g46 : F_ 46 = .int .i64 (vecE (X) (Y)) := hD.get 0 rfl rfl rfl
        have g48 : F_ 48 = .int .i64 (vecE (X) (Y)) := hD.get 1 rfl rfl rfl
        exact ⟨g44, (y_eqlI rfl g46 g48 (decide_eq_true rfl) ⟨rfl, Kept.refl _ _⟩)⟩
      refine stepsF_cons ?_ ?_
      · refine StepF.one rfl fun F_ w_ hR hout hD => ?_
        have g44 : F_ 44 = .bool true := hD.get 0 rfl rfl rfl
        have g49 : F_ 49 = .bool true := hD.get 1 rfl rfl rfl
        exact (y_pickT rfl g44 g49 ⟨rfl, Kept.refl _ _⟩)
      refine stepsF_cons ?_ ?_
      · refine StepF.one rfl fun F_ w_ hR hout hD => ?_
        have g50 : F_ 50 = .bool true := hD.get 0 rfl rfl rfl
        exact (y_mov rfl g50 ⟨rfl, Kept.refl _ _⟩)
      refine stepsF_cons ?_ ?_
      · refine StepF.when 8 true 51 rfl rfl fun F_ w_ hR hout hD => ?_
        have g51 : F_ 51 = .bool true := hD.get 0 rfl rfl rfl
        exact ⟨g51, (y_load_stc stcT_frame rfl ((hout 7 rfl (by decide)).trans s230) (B218.all hR id) ⟨rfl, Kept.refl _ _⟩)⟩
      refine stepsF_cons ?_ ?_
      · refine StepF.when 8 true 51 rfl rfl fun F_ w_ hR hout hD => ?_
        have g51 : F_ 51 = .bool true := hD.get 0 rfl rfl rfl
        exact ⟨g51, (y_mov rfl ((hout 1 rfl (by decide)).trans s226) ⟨rfl, Kept.refl _ _⟩)⟩
      refine stepsF_cons ?_ ?_
      · refine StepF.when 8 true 51 rfl rfl fun F_ w_ hR hout hD => ?_
        have g51 : F_ 51 = .bool true := hD.get 0 rfl rfl rfl
        exact ⟨g51, (y_mov rfl ((hout 2 rfl (by decide)).trans s227) ⟨rfl, Kept.refl _ _⟩)⟩
      refine stepsF_cons ?_ ?_
      · refine StepF.when 8 true 51 rfl rfl fun F_ w_ hR hout hD => ?_
        have g51 : F_ 51 = .bool true := hD.get 0 rfl rfl rfl
        exact ⟨g51, (y_mov rfl ((hout 3 rfl (by decide)).trans s228) ⟨rfl, Kept.refl _ _⟩)⟩
      refine stepsF_cons ?_ ?_
      · refine StepF.when 8 true 51 rfl rfl fun F_ w_ hR hout hD => ?_
        have g51 : F_ 51 = .bool true := hD.get 4 rfl rfl rfl
        have g52 : F_ 52 = .agg #[.int .i64 ((f).W), .int .i64 ((f).H), f0, f1, f2] := hD.get 0 rfl rfl rfl
        have g53 : F_ 53 = .int .i64 (p) := hD.get 1 rfl rfl rfl
        have g54 : F_ 54 = .int .i64 (x) := hD.get 2 rfl rfl rfl
        have g55 : F_ 55 = .int .i64 (y) := hD.get 3 rfl rfl rfl
        exact ⟨g51, (y_cs rfl rfl rfl (fun _ _ => by kernel_rfl) (ev_func _) (vsC g52 (vsC g53 (vsC g54 (vsC g55 vsN)))) (mo_sample (p) (x) (y) (f) (f0) (f1) (f2) (T_f0) (T_f1) (T_f2) _  (B215.all hR Apart.none) (B216.all hR Apart.none) (B217.all hR Apart.none) ) (fun e_ w_ h_ => ⟨_, h_.1, rfl, h_.2⟩))⟩
      refine stepsF_cons ?_ ?_
      · refine StepF.when 8 true 51 rfl rfl fun F_ w_ hR hout hD => ?_
        have g51 : F_ 51 = .bool true := hD.get 0 rfl rfl rfl
        exact ⟨g51, (y_load_stc stcT_frame rfl ((hout 7 rfl (by decide)).trans s230) (B218.all hR id) ⟨rfl, Kept.refl _ _⟩)⟩
      refine stepsF_cons ?_ ?_
      · refine StepF.when 8 true 51 rfl rfl fun F_ w_ hR hout hD => ?_
        have g51 : F_ 51 = .bool true := hD.get 0 rfl rfl rfl
        exact ⟨g51, (y_mov rfl ((hout 1 rfl (by decide)).trans s226) ⟨rfl, Kept.refl _ _⟩)⟩
      refine stepsF_cons ?_ ?_
      · refine StepF.when 8 true 51 rfl rfl fun F_ w_ hR hout hD => ?_
        have g51 : F_ 51 = .bool true := hD.get 0 rfl rfl rfl
        exact ⟨g51, (y_mov rfl ((hout 2 rfl (by decide)).trans s227) ⟨rfl, Kept.refl _ _⟩)⟩
      refine stepsF_cons ?_ ?_
      · refine StepF.when 8 true 51 rfl rfl fun F_ w_ hR hout hD => ?_
        have g51 : F_ 51 = .bool true := hD.get 0 rfl rfl rfl
        exact ⟨g51, (y_mov rfl ((hout 3 rfl (by decide)).trans s228) ⟨rfl, Kept.refl _ _⟩)⟩
      refine stepsF_cons ?_ ?_
      · refine StepF.when 8 true 51 rfl rfl fun F_ w_ hR hout hD => ?_
        have g51 : F_ 51 = .bool true := hD.get 5 rfl rfl rfl
        have g57 : F_ 57 = .agg #[.int .i64 ((f).W), .int .i64 ((f).H), f0, f1, f2] := hD.get 0 rfl rfl rfl
        have g58 : F_ 58 = .int .i64 (p) := hD.get 1 rfl rfl rfl
        have g59 : F_ 59 = .int .i64 (x) := hD.get 2 rfl rfl rfl
        have g60 : F_ 60 = .int .i64 (y) := hD.get 3 rfl rfl rfl
        exact ⟨g51, (y_cs rfl rfl rfl (fun _ _ => by kernel_rfl) (ev_func _) (vsC g57 (vsC g58 (vsC g59 (vsC g60 vsN)))) (mref_sample (p) (x) (y) (f) (f0) (f1) (f2) (T_f0) (T_f1) (T_f2) _  (B215.all hR Apart.none) (B216.all hR Apart.none) (B217.all hR Apart.none) ) (fun e_ w_ h_ => ⟨_, h_.1, rfl, h_.2⟩))⟩
      refine stepsF_cons ?_ ?_
      · refine StepF.when 8 true 51 rfl rfl fun F_ w_ hR hout hD => ?_
        have g51 : F_ 51 = .bool true := hD.get 2 rfl rfl rfl
        have g56 : F_ 56 = .int .i64 (smpF (f) (p) (x) (y)) := hD.get 0 rfl rfl rfl
        have g61 : F_ 61 = .int .i64 (smpF (f) (p) (x) (y)) := hD.get 1 rfl rfl rfl
        exact ⟨g51, (y_eqlI rfl g56 g61 (decide_eq_true rfl) ⟨rfl, Kept.refl _ _⟩)⟩
      refine stepsF_cons ?_ ?_
      · refine StepF.one rfl fun F_ w_ hR hout hD => ?_
        have g51 : F_ 51 = .bool true := hD.get 0 rfl rfl rfl
        have g62 : F_ 62 = .bool true := hD.get 1 rfl rfl rfl
        exact (y_pickT rfl g51 g62 ⟨rfl, Kept.refl _ _⟩)
      refine stepsF_cons ?_ ?_
      · refine StepF.one rfl fun F_ w_ hR hout hD => ?_
        have g63 : F_ 63 = .bool true := hD.get 0 rfl rfl rfl
        exact (y_mov rfl g63 ⟨rfl, Kept.refl _ _⟩)
      refine stepsF_cons ?_ ?_
      · refine StepF.when 21 true 64 rfl rfl fun F_ w_ hR hout hD => ?_
        have g64 : F_ 64 = .bool true := hD.get 0 rfl rfl rfl
        exact ⟨g64, (y_load_blk blkT_block rfl ((hout 16 rfl (by decide)).trans s235) (B222.all hR id) ⟨rfl, Kept.refl _ _⟩)⟩
      refine stepsF_cons ?_ ?_
      · refine StepF.when 21 true 64 rfl rfl fun F_ w_ hR hout hD => ?_
        have g64 : F_ 64 = .bool true := hD.get 0 rfl rfl rfl
        exact ⟨g64, (y_load_blk blkT_arr rfl ((hout 18 rfl (by decide)).trans s237) (B213.all hR id) ⟨rfl, Kept.refl _ _⟩)⟩
      refine stepsF_cons ?_ ?_
      · refine StepF.when 21 true 64 rfl rfl fun F_ w_ hR hout hD => ?_
        have g64 : F_ 64 = .bool true := hD.get 2 rfl rfl rfl
        have g65 : F_ 65 = blkV (mvB (f) (p) (x) (y) (X) (Y)) := hD.get 0 rfl rfl rfl
        have g66 : F_ 66 = blkV (mvB (f) (p) (x) (y) (X) (Y)) := hD.get 1 rfl rfl rfl
        exact ⟨g64, (y_sameR rfl g65 g66 (sameB_self _) ⟨rfl, Kept.refl _ _⟩)⟩
      refine stepsF_cons ?_ ?_
      · refine StepF.one rfl fun F_ w_ hR hout hD => ?_
        have g64 : F_ 64 = .bool true := hD.get 0 rfl rfl rfl
        have g67 : F_ 67 = .bool true := hD.get 1 rfl rfl rfl
        exact (y_pickT rfl g64 g67 ⟨rfl, Kept.refl _ _⟩)
      refine stepsF_cons ?_ ?_
      · refine StepF.one rfl fun F_ w_ hR hout hD => ?_
        have g68 : F_ 68 = .bool true := hD.get 0 rfl rfl rfl
        exact (y_mov rfl g68 ⟨rfl, Kept.refl _ _⟩)
      refine stepsF_cons ?_ ?_
      · refine StepF.when 26 true 69 rfl rfl fun F_ w_ hR hout hD => ?_
        have g69 : F_ 69 = .bool true := hD.get 0 rfl rfl rfl
        exact ⟨g69, (y_mov rfl ((hout 17 rfl (by decide)).trans s236) ⟨rfl, Kept.refl _ _⟩)⟩
      refine stepsF_cons ?_ ?_
      · refine StepF.when 26 true 69 rfl rfl fun F_ w_ hR hout hD => ?_
        have g69 : F_ 69 = .bool true := hD.get 0 rfl rfl rfl
        exact ⟨g69, (y_mov rfl ((hout 19 rfl (by decide)).trans s238) ⟨rfl, Kept.refl _ _⟩)⟩
      refine stepsF_cons ?_ ?_
      · refine StepF.when 26 true 69 rfl rfl fun F_ w_ hR hout hD => ?_
        have g69 : F_ 69 = .bool true := hD.get 2 rfl rfl rfl
        have g70 : F_ 70 = .int .i64 (mvE (f) (p) (x) (y) (X) (Y)) := hD.get 0 rfl rfl rfl
        have g71 : F_ 71 = .int .i64 (mvE (f) (p) (x) (y) (X) (Y)) := hD.get 1 rfl rfl rfl
        exact ⟨g69, (y_eqlI rfl g70 g71 (decide_eq_true rfl) ⟨rfl, Kept.refl _ _⟩)⟩
      refine stepsF_cons ?_ ?_
      · refine StepF.one rfl fun F_ w_ hR hout hD => ?_
        have g69 : F_ 69 = .bool true := hD.get 0 rfl rfl rfl
        have g72 : F_ 72 = .bool true := hD.get 1 rfl rfl rfl
        exact (y_pickT rfl g69 g72 ⟨rfl, Kept.refl _ _⟩)
      refine stepsF_cons ?_ ?_
      · refine StepF.one rfl fun F_ w_ hR hout hD => ?_
        have g73 : F_ 73 = .bool true := hD.get 0 rfl rfl rfl
        exact (y_mov rfl g73 ⟨rfl, Kept.refl _ _⟩)
      refine stepsF_cons ?_ ?_
      · refine StepF.when 31 true 74 rfl rfl fun F_ w_ hR hout hD => ?_
        have g74 : F_ 74 = .bool true := hD.get 0 rfl rfl rfl
        exact ⟨g74, (y_load_blk blkT_arr rfl ((hout 12 rfl (by decide)).trans s232) (B220.all hR id) ⟨rfl, Kept.refl _ _⟩)⟩
      refine stepsF_cons ?_ ?_
      · refine StepF.when 31 true 74 rfl rfl fun F_ w_ hR hout hD => ?_
        have g74 : F_ 74 = .bool true := hD.get 0 rfl rfl rfl
        exact ⟨g74, (y_load_blk blkT_arr rfl ((hout 13 rfl (by decide)).trans s233) (B221.all hR id) ⟨rfl, Kept.refl _ _⟩)⟩
      refine stepsF_cons ?_ ?_
      · refine StepF.when 31 true 74 rfl rfl fun F_ w_ hR hout hD => ?_
        have g74 : F_ 74 = .bool true := hD.get 2 rfl rfl rfl
        have g75 : F_ 75 = blkV (a) := hD.get 0 rfl rfl rfl
        have g76 : F_ 76 = blkV (b) := hD.get 1 rfl rfl rfl
        exact ⟨g74, (y_cs rfl rfl rfl (fun _ _ => by kernel_rfl) (ev_func _) (vsC g75 (vsC g76 vsN)) (mo_both (a) (b)  _   ) (fun e_ w_ h_ => ⟨_, h_.1, rfl, h_.2⟩))⟩
      refine stepsF_cons ?_ ?_
      · refine StepF.when 31 true 74 rfl rfl fun F_ w_ hR hout hD => ?_
        have g74 : F_ 74 = .bool true := hD.get 0 rfl rfl rfl
        exact ⟨g74, (y_load_blk blkT_arr rfl ((hout 12 rfl (by decide)).trans s232) (B220.all hR id) ⟨rfl, Kept.refl _ _⟩)⟩
      refine stepsF_cons ?_ ?_
      · refine StepF.when 31 true 74 rfl rfl fun F_ w_ hR hout hD => ?_
        have g74 : F_ 74 = .bool true := hD.get 0 rfl rfl rfl
        exact ⟨g74, (y_load_blk blkT_arr rfl ((hout 13 rfl (by decide)).trans s233) (B221.all hR id) ⟨rfl, Kept.refl _ _⟩)⟩
      refine stepsF_cons ?_ ?_
      · refine StepF.when 31 true 74 rfl rfl fun F_ w_ hR hout hD => ?_
        have g74 : F_ 74 = .bool true := hD.get 3 rfl rfl rfl
        have g78 : F_ 78 = blkV (a) := hD.get 0 rfl rfl rfl
        have g79 : F_ 79 = blkV (b) := hD.get 1 rfl rfl rfl
        exact ⟨g74, (y_cs rfl rfl rfl (fun _ _ => by kernel_rfl) (ev_func _) (vsC g78 (vsC g79 vsN)) (mref_both (a) (b)  _   ) (fun e_ w_ h_ => ⟨_, h_.1, rfl, h_.2⟩))⟩
      refine stepsF_cons ?_ ?_
      · refine StepF.when 31 true 74 rfl rfl fun F_ w_ hR hout hD => ?_
        have g74 : F_ 74 = .bool true := hD.get 2 rfl rfl rfl
        have g77 : F_ 77 = blkV (bothB (a) (b)) := hD.get 0 rfl rfl rfl
        have g80 : F_ 80 = blkV (bothB (a) (b)) := hD.get 1 rfl rfl rfl
        exact ⟨g74, (y_sameR rfl g77 g80 (sameB_self _) ⟨rfl, Kept.refl _ _⟩)⟩
      refine stepsF_cons ?_ ?_
      · refine StepF.one rfl fun F_ w_ hR hout hD => ?_
        have g74 : F_ 74 = .bool true := hD.get 0 rfl rfl rfl
        have g81 : F_ 81 = .bool true := hD.get 1 rfl rfl rfl
        exact (y_pickT rfl g74 g81 ⟨rfl, Kept.refl _ _⟩)
      refine stepsF_cons ?_ ?_
      · refine StepF.one rfl fun F_ w_ hR hout hD => ?_
        have g82 : F_ 82 = .bool true := hD.get 0 rfl rfl rfl
        exact (y_asg rfl g82 ⟨rfl, Kept.refl _ _⟩)
      exact stepsF_nil
    intro v239 F240 w241 k242 G243 hF244
    have B246 := B215.all k242 Apart.none
    have B247 := B216.all k242 Apart.none
    have B248 := B217.all k242 Apart.none
    have B249 := B218.all k242 id
    have B250 := B219.all k242 id
    have B251 := B220.all k242 id
    have B252 := B221.all k242 id
    have B253 := B222.all k242 id
    have B254 := B213.all k242 id
    have K255 := K223.trans k242 (fun _ _ x => x.elim)
    have s256 : F240 83 = undef := (hF244 83).trans s229
    have s257 : F240 14 = .bool true := (hF244 14).trans (G243 40 (by decide))
    clear G243 hF244
    refine then_normal ?_
    refine wq_ret ?_
    exact end_tmp (v := .bool true) s256 rfl rfl s257 ⟨rfl, K255⟩
  · skip
    refine wq_region ?_
    refine wl_v (.agg #[.int .i64 ((f).W), .int .i64 ((f).H), f0, f1, f2]) rfl rfl (y_load_stc stcT_frame rfl s93 B82 ⟨rfl, rfl⟩) ?_
    refine wl_call (R := fun v_ w_ => v_ = .bool false ∧ Kept (fun _ => False) w77 w_) rfl rfl (y_cs rfl rfl rfl (fun _ _ => by kernel_rfl) (ev_func _) (vsC rfl vsN) (flaw_few (f) (f0) (f1) (f2) (T_f0) (T_f1) (T_f2) _  B79 B80 B81 ) (fun e_ w_ h_ => ⟨_, h_.1, (congrArg Value.bool d98), h_.2⟩)) ?_
    rintro _ w258 ⟨rfl, k259⟩
    have B260 := B79.all k259 Apart.none
    have B261 := B80.all k259 Apart.none
    have B262 := B81.all k259 Apart.none
    have B263 := B82.all k259 id
    have B264 := B83.all k259 id
    have B265 := B84.all k259 id
    have B266 := B85.all k259 id
    have K267 := K86.trans k259 (fun _ _ x => x.elim)
    refine wl_v (.bool true) rfl rfl (y_not rfl rfl rfl ⟨rfl, rfl⟩) ?_
    refine wl_nil fun F268 hF269 => ?_
    have s270 : F268 1 = .int .i64 (p) := (hF269 1).trans s89
    have s271 : F268 2 = .int .i64 (x) := (hF269 2).trans s90
    have s272 : F268 3 = .int .i64 (y) := (hF269 3).trans s91
    have s273 : F268 83 = undef := (hF269 83).trans s92
    have s274 : F268 7 = .pointer (some ⟨p1, 0, none⟩) := (hF269 7).trans s93
    have s275 : F268 11 = .pointer (some ⟨p14, 0, none⟩) := (hF269 11).trans s94
    have s276 : F268 12 = .pointer (some ⟨p29, 0, none⟩) := (hF269 12).trans s95
    have s277 : F268 13 = .pointer (some ⟨p47, 0, none⟩) := (hF269 13).trans s96
    have s278 : F268 15 = .bool true := (hF269 15).trans s97
    have s279 : F268 23 = .bool true := (hF269 23).trans rfl
    clear hF269
    refine then_normal ?_
    refine wq_cond (t := true) s279 (fun _ => ?_) (fun e => by cases e)
    refine wq_seq ?_
    refine wq_region ?_
    refine wl_v (.bool true) rfl rfl (y_mov rfl s278 ⟨rfl, rfl⟩) ?_
    refine wl_v (.bool true) rfl rfl (y_asg rfl rfl ⟨rfl, rfl⟩) ?_
    refine wl_nil fun F280 hF281 => ?_
    have s282 : F280 83 = undef := (hF281 83).trans s273
    have s283 : F280 14 = .bool true := (hF281 14).trans rfl
    clear hF281
    refine then_normal ?_
    refine wq_ret ?_
    refine then_ret ?_
    exact end_tmp (v := .bool true) s282 rfl rfl s283 ⟨rfl, K267⟩

end Go.Proofs.Ytceoidglhakanaa
namespace Go.Proofs.Ytceoidglhakanaa
open Go.ChangeShapes Go.WideShapes Go.ChangeAt Go.RowKit

section
variable {H : Type} {enc : TypeId × Value → H} {P : Program} {w : World} {base : Nat} {spare : Nat → Bool} {held : Bool}

/-- The number at a place. -/
def intAt (cs : List Value) (i : Nat) : Int := match cs[i]? with
  | some (.int _ z) => z
  | _ => 0

theorem cells_ints {t e : TypeId} {n fuel : Nat} {k : IntKind} {cs : List Value} {x : DataW H × List MemPlace} (ht : P.underlying t = some (.array n e)) (he : P.underlying e = some (.int k)) (hce : P.cellsOf e = 1) (hct : P.cellsOf t = n)
    (h : DataW.trod enc P w base spare held fuel t cs = some x) : cs.length = n ∧ ∀ i, i < n → cs[i]? = some (.int k (intAt cs i)) ∧ (Lit.int k (intAt cs i)).wf = true := by
  obtain ⟨xs, m, _, _, hl, hn, hel⟩ := DataW.trod_array ht h
  refine ⟨by rw [hl, hct], fun i hi => ?_⟩
  have h1 := hel i hi
  rw [hce, Nat.mul_one, List.getElem?_eq_getElem (by omega)] at h1
  obtain ⟨z, hz, _, hw⟩ := DataW.trod_int he h1
  have h2 : cs[i]? = some (.int k z) := by
    have := congrArg (·[0]?) hz
    simpa [List.getElem?_take, List.getElem?_drop] using this
  have h3 : intAt cs i = z := by unfold intAt; rw [h2]
  rw [h3]; exact ⟨h2, hw⟩

theorem arr_open {r : Reach} {b0 : Nat} {t e : TypeId} {n : Nat} {v : Value} {d : DataW H} {ps : List MemPlace} (ht : P.underlying t = some (.array n e)) (he : P.underlying e = some (.int .i64)) (hce : P.cellsOf e = 1) (hct : P.cellsOf t = n)
    (hval : Value.okWide P w r b0 t v) (h : DataW.Trod enc P w base spare held t v d ps) : ∃ b : Nat → Int, v = .agg (arrL n b).toArray ∧ ∀ i, i < n → -9223372036854775808 ≤ b i ∧ b i ≤ 9223372036854775807 := by
  obtain ⟨cs, rfl, _, _⟩ : ∃ cs, v = .agg cs ∧ cs.size = P.cellsOf t ∧ Row.okWide P w r b0 t cs := by simpa [Value.okWide, ht] using hval
  obtain ⟨fuel, hf⟩ := h
  obtain ⟨hl, hc⟩ := cells_ints ht he hce hct (cs := cs.toList) hf
  refine ⟨intAt cs.toList, ?_, fun i hi => ?_⟩
  · congr 1
    apply Array.ext'
    apply List.ext_getElem?
    intro i
    by_cases hi : i < n
    · rw [(hc i hi).1]; exact (arrL_at hi).symm
    · rw [List.getElem?_eq_none (by omega), List.getElem?_eq_none (by simp [arrL_length]; omega)]
  · have := bounds_i64 (hc i hi).2
    omega
end
end Go.Proofs.Ytceoidglhakanaa
namespace Go.Proofs.Ytceoidglhakanaa
open Go.ChangeShapes Go.WideShapes Go.ChangeAt Go.RowKit

section
variable {H : Type} {enc : TypeId × Value → H} {w : World} {base : Nat} {spare : Nat → Bool} {held : Bool}

theorem BytesArg.of_row {a : Option Addr} {len cap : Nat} {zs : List Int}
    (h : (a = none ∧ len = 0 ∧ cap = 0 ∧ zs = []) ∨ ∃ x, a = some x ∧ len ≤ cap ∧ cap ≤ maxLen ∧ len ≤ zs.length ∧ (∀ i, i < zs.length → w.cell? (x.add i) = some (.int .u8 (zs.getD i 0))) ∧ ∀ n ∈ zs, (Lit.int .u8 n).wf = true) :
    ∃ l : List Nat, BytesArg w (.slice a len cap) l := by
  rcases h with ⟨rfl, rfl, rfl, rfl⟩ | ⟨x, rfl, hlc, hcm, hz, hcell, hwf⟩
  · exact ⟨[], BytesArg.nil w⟩
  · have hlen : ((zs.take len).map Int.toNat).length = len := by simp; omega
    refine ⟨(zs.take len).map Int.toNat, some x, cap, by rw [hlen], by rw [hlen]; exact hlc, hcm, by simp, ?_, ?_⟩
    · intro y hy
      obtain ⟨z, hz1, rfl⟩ := List.mem_map.1 hy
      have := bounds_u8 (hwf z (List.mem_of_mem_take hz1))
      omega
    · intro hpos
      rw [hlen] at hpos
      have hpos' : 0 < zs.length := by omega
      obtain ⟨b, off, rfl, hc⟩ := ints_at hcell hpos'
      refine ⟨b, off, rfl, World.block_lt_of_cell? w _ (hc 0 hpos'), fun i hi => ?_⟩
      rw [hlen] at hi
      have hi' : i < zs.length := by omega
      rw [hc i hi']
      have hwi := bounds_u8 (hwf zs[i] (List.getElem_mem hi'))
      simp [List.getD, hi', hi]
      omega

theorem bytes_open {fuel : Nat} {v : Value} {x : DataW H × List MemPlace}
    (h : DataW.trod enc Try.prog w base spare held fuel 22 [v] = some x) : ∃ l : List Nat, BytesArg w v l := by
  rcases open_ints Try.underlying22 Try.underlying5 (by kernel_rfl) h with ⟨hcs, _⟩ | ⟨a, len, cap, zs, hcs, _, hl, hm, hz, _, hcell, hwz⟩
  · simp at hcs
    subst hcs
    exact ⟨[], BytesArg.nil w⟩
  · simp at hcs
    subst hcs
    exact BytesArg.of_row (.inr ⟨a, rfl, hl, hm, by have := hz; split at this <;> omega, hcell, hwz⟩)

end
end Go.Proofs.Ytceoidglhakanaa
namespace Go.Proofs.Ytceoidglhakanaa
open Go.ChangeShapes Go.WideShapes Go.ChangeAt Go.RowKit Go.Deep

section
variable {H : Type} {enc : TypeId × Value → H} {w : World} {base : Nat} {spare : Nat → Bool} {held : Bool}
theorem Try.cellsF : Try.prog.cellsOf 25 = 5 := by kernel_rfl
theorem Try.cellsI : Try.prog.cellsOf 3 = 1 := by kernel_rfl
theorem Try.cellsP : Try.prog.cellsOf 23 = 3 := by kernel_rfl
theorem Try.cellsS : Try.prog.cellsOf 22 = 1 := by kernel_rfl
theorem frame_open {r : Reach} {b0 : Nat} {v : Value} {d : DataW H} {ps : List MemPlace} (hval : Value.okWide Try.prog w r b0 25 v) (h : DataW.Trod enc Try.prog w base spare held 25 v d ps) :
    ∃ (f : FD) (a b c : Value), v = .agg #[.int .i64 f.W, .int .i64 f.H, a, b, c] ∧ BytesArg w a f.p0 ∧ BytesArg w b f.p1 ∧ BytesArg w c f.p2 := by
  obtain ⟨cs, rfl, hsz⟩ := okWide_struct Try.underlying25 hval
  rw [Try.cellsF] at hsz
  obtain ⟨cs⟩ := cs
  obtain ⟨fuel, hf⟩ := h
  match cs, hsz with
  | [c0, c1, c2, c3, c4], _ =>
    obtain ⟨y0, y1, y2, n, _, _, h0, h1, h2⟩ := trod_struct3 (cs := [c0, c1, c2, c3, c4]) Try.underlying25 hf
    simp only [Try.cellsI, Try.cellsP, List.drop_zero, List.drop_succ_cons, List.take_succ_cons, List.take_zero] at h0 h1 h2
    obtain ⟨W, hW, _, _⟩ := DataW.trod_int Try.underlying3 h0
    obtain ⟨Hh, hH, _, _⟩ := DataW.trod_int Try.underlying3 h1
    obtain ⟨xs, m, _, _, _, hn, hel⟩ := DataW.trod_array Try.underlying23 h2
    have e0 := hel 0 (by omega)
    have e1 := hel 1 (by omega)
    have e2 := hel 2 (by omega)
    simp only [Try.cellsS, Nat.mul_one, List.drop_zero, List.drop_succ_cons, List.take_succ_cons, List.take_zero] at e0 e1 e2
    rw [List.getElem?_eq_getElem (by omega)] at e0 e1 e2
    obtain ⟨l0, b0⟩ := bytes_open e0
    obtain ⟨l1, b1⟩ := bytes_open e1
    obtain ⟨l2, b2⟩ := bytes_open e2
    simp only [List.cons.injEq, and_true] at hW hH
    subst hW; subst hH
    exact ⟨⟨W, Hh, l0, l1, l2⟩, c2, c3, c4, rfl, b0, b1, b2⟩
end
end Go.Proofs.Ytceoidglhakanaa
namespace Go.Proofs.Ytceoidglhakanaa
open Go.ChangeShapes Go.WideShapes Go.ChangeAt Go.RowKit Go.Deep

section
variable {H : Type} {enc : TypeId × Value → H} {w : World} {base : Nat} {spare : Nat → Bool} {held : Bool}
theorem Try.cellsVec : Try.prog.cellsOf 27 = 2 := by kernel_rfl
theorem Try.cellsVecI : Try.prog.cellsOf 3 = 1 := by kernel_rfl
theorem vec_open {r : Reach} {b0 : Nat} {v : Value} {d : DataW H} {ps : List MemPlace} (hval : Value.okWide Try.prog w r b0 27 v) (h : DataW.Trod enc Try.prog w base spare held 27 v d ps) :
    ∃ X Y : Int, v = .agg #[.int .i64 X, .int .i64 Y] := by
  obtain ⟨cs, rfl, hsz⟩ := okWide_struct Try.underlying27 hval
  rw [Try.cellsVec] at hsz
  obtain ⟨cs⟩ := cs
  obtain ⟨fuel, hf⟩ := h
  match cs, hsz with
  | [c0, c1], _ =>
    obtain ⟨y0, y1, n, _, _, h0, h1⟩ := trod_struct2 (cs := [c0, c1]) Try.underlying27 hf
    simp only [Try.cellsVecI, List.drop_zero, List.drop_succ_cons, List.take_succ_cons, List.take_zero] at h0 h1
    obtain ⟨X, hX, _, _⟩ := DataW.trod_int Try.underlying3 h0
    obtain ⟨Y, hY, _, _⟩ := DataW.trod_int Try.underlying3 h1
    simp only [List.cons.injEq, and_true] at hX hY
    subst hX; subst hY
    exact ⟨X, Y, rfl⟩
end
end Go.Proofs.Ytceoidglhakanaa
