/- What MotionRefuses reaches of my texts, part 6. -/
import Derived.Test.YtceoidglhakanaaMotionRefusesE
namespace Go.Proofs.Ytceoidglhakanaa
open Go.RowKit
def fillL (A s m : Nat) : List Nat := List.replicate m s ++ List.replicate (A - m) 0
theorem fill_length {A s m : Nat} (h : m ≤ A) : (fillL A s m).length = A := by unfold fillL; simp; omega
theorem fill_start {A s pw : Nat} {l : List Nat} (h : l = List.replicate A 0) : fillL A s (0 * pw) = l := by rw [h]; unfold fillL; simp
theorem fill_done {A s : Nat} {l : List Nat} (h : l = List.replicate A s) : l = fillL A s A := by rw [h]; unfold fillL; simp
theorem fill_next {A s a pw y : Nat} (hp : pw ≤ a) :
    fillL A s ((y + 1) * pw) = (fillL A s (y * pw)).take ((((y : Nat) : Int)) * (((pw : Nat) : Int))).toNat ++ ((List.replicate a s).take ((((((y : Nat) : Int)) * (((pw : Nat) : Int))) + (((pw : Nat) : Int))).toNat - ((((y : Nat) : Int)) * (((pw : Nat) : Int))).toNat) ++ (fillL A s (y * pw)).drop (((((y : Nat) : Int)) * (((pw : Nat) : Int))).toNat + min ((((((y : Nat) : Int)) * (((pw : Nat) : Int))) + (((pw : Nat) : Int))).toNat - ((((y : Nat) : Int)) * (((pw : Nat) : Int))).toNat) (List.replicate a s).length)) := by
  have e1 : ((((y : Nat) : Int)) * (((pw : Nat) : Int))).toNat = y * pw := by rw [← Int.natCast_mul, Int.toNat_natCast]
  have e2 : (((((y : Nat) : Int)) * (((pw : Nat) : Int))) + (((pw : Nat) : Int))).toNat = y * pw + pw := by rw [← Int.natCast_mul, ← Int.natCast_add, Int.toNat_natCast]
  rw [e1, e2, show y * pw + pw - y * pw = pw by omega, List.length_replicate, show min pw a = pw by omega, List.take_replicate, show min pw a = pw by omega, Nat.succ_mul]
  unfold fillL
  rw [List.take_append_of_le_length (by simp), List.take_of_length_le (by simp), List.drop_append]
  simp only [List.length_replicate, List.drop_replicate]
  rw [show y * pw - (y * pw + pw) = 0 by omega, show y * pw + pw - y * pw = pw by omega, show A - y * pw - pw = A - (y * pw + pw) by omega, List.replicate_zero, List.nil_append, ← List.append_assoc, List.replicate_append_replicate]
theorem new_planes {w h : Int} (s : Nat) (hsw : sideB w = true) (hsh : sideB h = true) {a b : Nat} (ha : (a : Int) = w) (hb : (b : Int) = h) : (newF w h s).p0 = List.replicate (b * a) s ∧ (newF w h s).p1 = List.replicate (b / 2 * (a / 2)) s ∧ (newF w h s).p2 = List.replicate (b / 2 * (a / 2)) s := by
  have h1 := (sideB_iff _).1 hsw
  have h2 := (sideB_iff _).1 hsh
  subst ha; subst hb
  rw [newF_yes s hsw hsh]
  have e0 : ((a : Int) * (b : Int)).toNat = b * a := by rw [← Int.natCast_mul, Int.toNat_natCast, Nat.mul_comm]
  have e1 : ((a : Int) * (b : Int) / 4).toNat = b / 2 * (a / 2) := by
    rw [← quarter h1.2.2 h2.2.2 (by omega) (by omega), tdiv2 (by omega), tdiv2 (by omega), show (a : Int) / 2 = ((a / 2 : Nat) : Int) by omega, show (b : Int) / 2 = ((b / 2 : Nat) : Int) by omega, ← Int.natCast_mul, Int.toNat_natCast, Nat.mul_comm]
  exact ⟨congrArg (List.replicate · s) e0, congrArg (List.replicate · s) e1, congrArg (List.replicate · s) e1⟩
theorem size_as {w h : Int} (hsw : sideB w = true) (hsh : sideB h = true) {g : FD} (hW : g.W = w) (hH : g.H = h) (h0 : g.p0.length = (newF w h 0).p0.length) (h1 : g.p1.length = (newF w h 0).p1.length) (h2 : g.p2.length = (newF w h 0).p2.length) (k : Nat) (hk : k ≤ 2) {a b : Nat} (ha : (a : Int) = w) (hb : (b : Int) = h) : sizeF g ((k : Nat) : Int) = (((pn2 a (a / 2) k : Nat) : Int), ((pn2 b (b / 2) k : Nat) : Int)) := by
  have hn := new_ok 0 hsw hsh
  have hg : okF g := ok_of hn (by rw [hW, (new_side 0 hsw hsh).1]) (by rw [hH, (new_side 0 hsw hsh).2]) h0 h1 h2
  have s1 := (sideB_iff _).1 hsw
  have s2 := (sideB_iff _).1 hsh
  cases k with
  | zero => show sizeF g 0 = _; rw [sizeF_first hg rfl, hW, hH, ← ha, ← hb]; rfl
  | succ k =>
    rw [sizeF_other hg (by omega) (by omega) (by omega), hW, hH, tdiv2 (by omega), tdiv2 (by omega)]
    simp only [pn2]
    congr 1 <;> omega
theorem size_fst {w h : Int} (hsw : sideB w = true) (hsh : sideB h = true) {g : FD} (hW : g.W = w) (hH : g.H = h) (h0 : g.p0.length = (newF w h 0).p0.length) (h1 : g.p1.length = (newF w h 0).p1.length) (h2 : g.p2.length = (newF w h 0).p2.length) (k : Nat) (hk : k ≤ 2) {a b : Nat} (ha : (a : Int) = w) (hb : (b : Int) = h) : (sizeF g ((k : Nat) : Int)).1 = ((pn2 a (a / 2) k : Nat) : Int) := by rw [size_as hsw hsh hW hH h0 h1 h2 k hk ha hb]
theorem size_snd {w h : Int} (hsw : sideB w = true) (hsh : sideB h = true) {g : FD} (hW : g.W = w) (hH : g.H = h) (h0 : g.p0.length = (newF w h 0).p0.length) (h1 : g.p1.length = (newF w h 0).p1.length) (h2 : g.p2.length = (newF w h 0).p2.length) (k : Nat) (hk : k ≤ 2) {a b : Nat} (ha : (a : Int) = w) (hb : (b : Int) = h) : (sizeF g ((k : Nat) : Int)).2 = ((pn2 b (b / 2) k : Nat) : Int) := by rw [size_as hsw hsh hW hH h0 h1 h2 k hk ha hb]
theorem row_fact {y pw ph : Nat} (h : y < ph) (hp : pw ≤ 64) (hh : ph ≤ 64) : y * pw + pw ≤ ph * pw ∧ 0 ≤ ((y : Nat) : Int) * ((pw : Nat) : Int) ∧ ((y : Nat) : Int) * ((pw : Nat) : Int) ≤ 4096 ∧ ((y : Nat) : Int) * ((pw : Nat) : Int) + ((pw : Nat) : Int) ≤ ((ph * pw : Nat) : Int) := by
  have h1 : (y + 1) * pw ≤ ph * pw := Nat.mul_le_mul_right _ h
  rw [Nat.succ_mul] at h1
  have h2 : y * pw ≤ 64 * 64 := Nat.mul_le_mul (by omega) hp
  rw [← Int.natCast_mul]
  omega
set_option maxHeartbeats 4000000 in
set_option maxRecDepth 100000 in
theorem pl_new (w h : Int) (s : Nat) (w0 : World) (hs : s < 256) :
    Calls Try.prog 24 #[.int .i64 (w), .int .i64 (h), .int .u8 (((s : Nat) : Int))] w0 fun e w' => ∃ (v1 : Value) (T1 : Nat → Prop) (v2 : Value) (T2 : Nat → Prop) (v3 : Value) (T3 : Nat → Prop), e = .returned (.tuple #[.agg #[.int .i64 ((newF w h s).W), .int .i64 ((newF w h s).H), v1, v2, v3], .int .i64 (newE w h)]) ∧ Kept (fun _ => False) w0 w' ∧ (Owb w' T1 v1 ((newF w h s).p0) ∧ Grew w0 noB T1) ∧ (Owb w' T2 v2 ((newF w h s).p1) ∧ Grew w0 noB T2) ∧ (Owb w' T3 v3 ((newF w h s).p2) ∧ Grew w0 noB T3) ∧ Apart T1 T2 ∧ Apart T1 T3 ∧ Apart T2 T3 := by
  refine calls_wq (args := [.int .i64 (w), .int .i64 (h), .int .u8 (((s : Nat) : Int))]) 55 Try.func24 rfl rfl (Nat.le_of_ble_eq_true rfl) ?_
  have K0 := Kept.refl (fun _ => False) w0
  refine wq_seq ?_
  refine wq_region ?_
  refine wl_alloc_stc (n := 5) (vs := [.int .i64 (0), .int .i64 (0), .slice none 0 0, .slice none 0 0, .slice none 0 0]) rfl rfl rfl (by kernel_rfl) fun p1 w2 B4 g5 k3 => ?_
  have gr6 : Grew w0 noB (onB p1) := Grew.new K0 g5
  have K7 := K0.trans k3 (fun _ _ x => x.elim)
  refine wl_v (.int .i64 (0)) rfl rfl (y_asg rfl rfl ⟨rfl, rfl⟩) ?_
  refine wl_nil fun F8 hF9 => ?_
  have s10 : F8 0 = .int .i64 (w) := (hF9 0).trans rfl
  have s11 : F8 1 = .int .i64 (h) := (hF9 1).trans rfl
  have s12 : F8 2 = .int .u8 (((s : Nat) : Int)) := (hF9 2).trans rfl
  have s13 : F8 55 = undef := (hF9 55).trans rfl
  have s14 : F8 6 = .pointer (some ⟨p1, 0, none⟩) := (hF9 6).trans rfl
  clear hF9
  refine then_normal ?_
  refine wq_seq ?_
  refine wq_seq ?_
  rcases Bool.eq_false_or_eq_true (sideB (w)) with d15 | d15
  · skip
    rcases Bool.eq_false_or_eq_true (sideB (h)) with d16 | d16
    · skip
      refine wq_region ?_
      refine wl_v (.int .i64 (w)) rfl rfl (y_mov rfl s10 ⟨rfl, rfl⟩) ?_
      refine wl_call (R := fun v_ w_ => v_ = .bool true ∧ Kept (fun _ => False) w2 w_) rfl rfl (y_cs rfl rfl rfl (fun _ _ => by kernel_rfl) (ev_func _) (vsC rfl vsN) (ps_side (w)  _   ) (fun e_ w_ h_ => ⟨_, h_.1, (congrArg Value.bool d15), h_.2⟩)) ?_
      rintro _ w17 ⟨rfl, k18⟩
      have B19 := B4.all k18 id
      have K20 := K7.trans k18 (fun _ _ x => x.elim)
      refine wl_v (.bool false) rfl rfl (y_not rfl rfl rfl ⟨rfl, rfl⟩) ?_
      refine wl_v (.bool false) rfl rfl (y_mov rfl rfl ⟨rfl, rfl⟩) ?_
      refine wl_vw (.int .i64 (h)) 3 false 17 rfl rfl rfl rfl rfl (y_mov rfl s11 ⟨rfl, rfl⟩) ?_
      refine wl_callw (R := fun v_ w_ => v_ = .bool true ∧ Kept (fun _ => False) w17 w_) 3 false 17 rfl rfl rfl rfl rfl (y_cs rfl rfl rfl (fun _ _ => by kernel_rfl) (ev_func _) (vsC rfl vsN) (ps_side (h)  _   ) (fun e_ w_ h_ => ⟨_, h_.1, (congrArg Value.bool d16), h_.2⟩)) ?_
      rintro _ w21 ⟨rfl, k22⟩
      have B23 := B19.all k22 id
      have K24 := K20.trans k22 (fun _ _ x => x.elim)
      refine wl_vw (.bool false) 3 false 17 rfl rfl rfl rfl rfl (y_not rfl rfl rfl ⟨rfl, rfl⟩) ?_
      refine wl_v (.bool false) rfl rfl (y_pickF rfl rfl rfl ⟨rfl, rfl⟩) ?_
      refine wl_nil fun F25 hF26 => ?_
      have s27 : F25 0 = .int .i64 (w) := (hF26 0).trans s10
      have s28 : F25 1 = .int .i64 (h) := (hF26 1).trans s11
      have s29 : F25 2 = .int .u8 (((s : Nat) : Int)) := (hF26 2).trans s12
      have s30 : F25 55 = undef := (hF26 55).trans s13
      have s31 : F25 6 = .pointer (some ⟨p1, 0, none⟩) := (hF26 6).trans s14
      have s32 : F25 21 = .bool false := (hF26 21).trans rfl
      clear hF26
      refine then_normal ?_
      refine wq_cond (t := false) s32 (fun e => by cases e) (fun _ => ?_)
      refine wq_skip ?_
      refine then_normal ?_
      refine wq_seq ?_
      have hsw : sideB w = true := by assumption
      have hsh : sideB h = true := by assumption
      have hws := (sideB_iff _).1 hsw
      have hhs := (sideB_iff _).1 hsh
      obtain ⟨a, ha⟩ : ∃ n : Nat, (n : Int) = w := ⟨w.toNat, by omega⟩
      obtain ⟨b, hb⟩ : ∃ n : Nat, (n : Int) = h := ⟨h.toNat, by omega⟩
      refine wq_region ?_
      refine wl_v (.int .i64 (w)) rfl rfl (y_mov rfl s27 ⟨rfl, rfl⟩) ?_
      refine wl_v (.int .i64 (h)) rfl rfl (y_mov rfl s28 ⟨rfl, rfl⟩) ?_
      refine wl_call (R := fun v_ w_ => ∃ (v33 : Value) (T38 : Nat → Prop) (v34 : Value) (T39 : Nat → Prop) (v35 : Value) (T40 : Nat → Prop), .agg #[.int .i64 ((newF (w) (h) 0).W), .int .i64 ((newF (w) (h) 0).H), v33, v34, v35] = v_ ∧ Kept (fun _ => False) w21 w_ ∧ (Owb w_ T38 v33 ((newF (w) (h) 0).p0) ∧ Grew w21 noB T38) ∧ (Owb w_ T39 v34 ((newF (w) (h) 0).p1) ∧ Grew w21 noB T39) ∧ (Owb w_ T40 v35 ((newF (w) (h) 0).p2) ∧ Grew w21 noB T40) ∧ Apart T38 T39 ∧ Apart T38 T40 ∧ Apart T39 T40) rfl rfl (y_cs rfl rfl rfl (fun _ _ => by kernel_rfl) (ev_func _) (vsC rfl (vsC rfl vsN)) (ps_blank (w) (h)  _ hsw hsh  ) (fun e_ w_ h_ => by obtain ⟨v33_, T38_, v34_, T39_, v35_, T40_, he_, hr_⟩ := h_; exact ⟨_, he_, v33_, T38_, v34_, T39_, v35_, T40_, rfl, hr_⟩)) ?_
      rintro _ w36 ⟨v33, T38, v34, T39, v35, T40, rfl, k37, ⟨B41, g44⟩, ⟨B42, g45⟩, ⟨B43, g46⟩, ap47, ap48, ap49⟩
      have B50 := B23.all k37 id
      have K51 := K24.trans k37 (fun _ _ x => x.elim)
      have gr52 : Grew w0 noB (T38) := Grew.new K24 g44
      have ap53 : Apart (T38) (onB p1) := Apart.new g44 (onB_live (B23).lt)
      have gr54 : Grew w0 noB (T39) := Grew.new K24 g45
      have ap55 : Apart (T39) (onB p1) := Apart.new g45 (onB_live (B23).lt)
      have gr56 : Grew w0 noB (T40) := Grew.new K24 g46
      have ap57 : Apart (T40) (onB p1) := Apart.new g46 (onB_live (B23).lt)
      refine wl_alloc_stc (n := 5) (vs := [.int .i64 (0), .int .i64 (0), .slice none 0 0, .slice none 0 0, .slice none 0 0]) rfl rfl rfl (by kernel_rfl) fun p58 w59 B61 g62 k60 => ?_
      have gr63 : Grew w0 noB (onB p58) := Grew.new K51 g62
      have ap64 : Apart (onB p58) (onB p1) := Apart.new g62 (onB_live (B50).lt)
      have ap65 : Apart (onB p58) (T38) := Apart.new g62 (B41).live
      have ap66 : Apart (onB p58) (T39) := Apart.new g62 (B42).live
      have ap67 : Apart (onB p58) (T40) := Apart.new g62 (B43).live
      have B68 := B50.all k60 id
      have B69 := B41.all k60 Apart.none
      have B70 := B42.all k60 Apart.none
      have B71 := B43.all k60 Apart.none
      have K72 := K51.trans k60 (fun _ _ x => x.elim)
      refine wl_store_stc (us := [.int .i64 ((newF (w) (h) 0).W), .int .i64 ((newF (w) (h) 0).H), v33, v34, v35]) stcT_frame rfl rfl rfl rfl rfl B61 rfl (oneI rfl (oneI rfl (oneI (B69).one (oneI (B70).one (oneI (B71).one oneN))))) fun w73 B74 k75 => ?_
      have B76 := B68.all k75 (fun x => (((ap64).symm) p1 rfl x))
      have B77 := B69.all k75 (fun i h x => (((ap65).symm) i h x))
      have B78 := B70.all k75 (fun i h x => (((ap66).symm) i h x))
      have B79 := B71.all k75 (fun i h x => (((ap67).symm) i h x))
      have K80 := K72.trans k75 (Grew.ok (S := fun _ => False) gr63 noB_le)
      refine wl_nil fun F81 hF82 => ?_
      have s83 : F81 0 = .int .i64 (w) := (hF82 0).trans s27
      have s84 : F81 2 = .int .u8 (((s : Nat) : Int)) := (hF82 2).trans s29
      have s85 : F81 55 = undef := (hF82 55).trans s30
      have s86 : F81 6 = .pointer (some ⟨p1, 0, none⟩) := (hF82 6).trans s31
      have s87 : F81 8 = .pointer (some ⟨p58, 0, none⟩) := (hF82 8).trans rfl
      clear hF82
      refine then_normal ?_
      refine wq_seq ?_
      have s88 : F81 0 = .int .i64 (((a : Nat) : Int)) := s83.trans (congrArg (Value.int .i64) (ha.symm))
      refine wq_region ?_
      refine wl_v (.int .u8 (((s : Nat) : Int))) rfl rfl (y_mov rfl s84 ⟨rfl, rfl⟩) ?_
      refine wl_builtB1 (n := s) rfl rfl rfl rfl (by omega) (by omega) fun v89 w90 T94 B92 g93 k91 => ?_
      have gr95 : Grew w0 noB (T94) := Grew.new K80 g93
      have ap96 : Apart (T94) (onB p1) := Apart.new g93 (onB_live (B76).lt)
      have ap97 : Apart (T94) (T38) := Apart.new g93 (B77).live
      have ap98 : Apart (T94) (T39) := Apart.new g93 (B78).live
      have ap99 : Apart (T94) (T40) := Apart.new g93 (B79).live
      have ap100 : Apart (T94) (onB p58) := Apart.new g93 (onB_live (B74).lt)
      have B101 := B76.all k91 id
      have B102 := B77.all k91 Apart.none
      have B103 := B78.all k91 Apart.none
      have B104 := B79.all k91 Apart.none
      have B105 := B74.all k91 id
      have K106 := K80.trans k91 (fun _ _ x => x.elim)
      refine wl_v (.int .i64 (((a : Nat) : Int))) rfl rfl (y_mov rfl s88 ⟨rfl, rfl⟩) ?_
      refine wl_call (R := fun v_ w_ => ∃ (v107 : Value) (T110 : Nat → Prop), v107 = v_ ∧ Kept (fun _ => False) w90 w_ ∧ (Byt w_ T110 v107 (List.replicate (a) (s)) ∧ Grew w90 noB T110)) rfl rfl (y_cs rfl rfl rfl (fun _ _ => by kernel_rfl) (ev_func _) (vsC rfl (vsC rfl vsN)) (ps_repeat (v89) ([s]) (s) (a) (T94) _ rfl rfl (by omega) (by omega) (B92).byt ) (fun e_ w_ h_ => by obtain ⟨v107_, T110_, he_, hr_⟩ := h_; exact ⟨_, he_, v107_, T110_, rfl, hr_⟩)) ?_
      rintro _ w108 ⟨v107, T110, rfl, k109, ⟨B111, g112⟩⟩
      have B113 := B101.all k109 id
      have B114 := B102.all k109 Apart.none
      have B115 := B103.all k109 Apart.none
      have B116 := B104.all k109 Apart.none
      have B117 := B105.all k109 id
      have B118 := B92.all k109 Apart.none
      have K119 := K106.trans k109 (fun _ _ x => x.elim)
      have gr120 : Grew w0 noB (T110) := Grew.new K106 g112
      have ap121 : Apart (T110) (onB p1) := Apart.new g112 (onB_live (B101).lt)
      have ap122 : Apart (T110) (T38) := Apart.new g112 (B102).live
      have ap123 : Apart (T110) (T39) := Apart.new g112 (B103).live
      have ap124 : Apart (T110) (T40) := Apart.new g112 (B104).live
      have ap125 : Apart (T110) (onB p58) := Apart.new g112 (onB_live (B105).lt)
      have ap126 : Apart (T110) (T94) := Apart.new g112 (B92).live
      refine wl_v (v107) rfl rfl (y_asg rfl rfl ⟨rfl, rfl⟩) ?_
      refine wl_nil fun F127 hF128 => ?_
      have s129 : F127 55 = undef := (hF128 55).trans s85
      have s130 : F127 6 = .pointer (some ⟨p1, 0, none⟩) := (hF128 6).trans s86
      have s131 : F127 8 = .pointer (some ⟨p58, 0, none⟩) := (hF128 8).trans s87
      have s132 : F127 9 = v107 := (hF128 9).trans rfl
      clear hF128
      refine then_normal ?_
      refine wq_seq ?_
      refine wq_seq ?_
      refine wq_region ?_
      refine wl_v (.int .i64 (0)) rfl rfl (y_mov rfl rfl ⟨rfl, rfl⟩) ?_
      refine wl_nil fun F133 hF134 => ?_
      have s135 : F133 55 = undef := (hF134 55).trans s129
      have s136 : F133 6 = .pointer (some ⟨p1, 0, none⟩) := (hF134 6).trans s130
      have s137 : F133 8 = .pointer (some ⟨p58, 0, none⟩) := (hF134 8).trans s131
      have s138 : F133 9 = v107 := (hF134 9).trans s132
      have s139 : F133 30 = .int .i64 (0) := (hF134 30).trans rfl
      clear hF134
      refine then_normal ?_
      refine wq_block ?_
      refine wq_rounds 4 ?_
      refine wqr_step ?_
      refine wq_seq ?_
      refine wq_region ?_
      refine wl_v (.bool true) rfl rfl (y_lss rfl s139 rfl rfl ⟨rfl, rfl⟩) ?_
      refine wl_nil fun F140 hF141 => ?_
      have s142 : F140 55 = undef := (hF141 55).trans s135
      have s143 : F140 6 = .pointer (some ⟨p1, 0, none⟩) := (hF141 6).trans s136
      have s144 : F140 8 = .pointer (some ⟨p58, 0, none⟩) := (hF141 8).trans s137
      have s145 : F140 9 = v107 := (hF141 9).trans s138
      have s146 : F140 30 = .int .i64 (0) := (hF141 30).trans s139
      have s147 : F140 31 = .bool true := (hF141 31).trans rfl
      clear hF141
      refine then_normal ?_
      refine wq_seq ?_
      refine wq_cond (t := true) s147 (fun _ => ?_) (fun e => by cases e)
      refine wq_skip ?_
      refine then_normal ?_
      refine wq_seq ?_
      refine wq_block ?_
      refine wq_seq ?_
      refine wq_region ?_
      refine wl_v (.int .i64 (0)) rfl rfl (y_mov rfl s146 ⟨rfl, rfl⟩) ?_
      refine wl_v (.int .i64 (0)) rfl rfl (y_asg rfl rfl ⟨rfl, rfl⟩) ?_
      refine wl_nil fun F148 hF149 => ?_
      have s150 : F148 55 = undef := (hF149 55).trans s142
      have s151 : F148 6 = .pointer (some ⟨p1, 0, none⟩) := (hF149 6).trans s143
      have s152 : F148 8 = .pointer (some ⟨p58, 0, none⟩) := (hF149 8).trans s144
      have s153 : F148 9 = v107 := (hF149 9).trans s145
      have s154 : F148 30 = .int .i64 (0) := (hF149 30).trans s146
      have s155 : F148 10 = .int .i64 (0) := (hF149 10).trans rfl
      clear hF149
      refine then_normal ?_
      refine wq_seq ?_
      refine wq_region ?_
      refine wl_v (.agg #[.int .i64 ((newF (w) (h) 0).W), .int .i64 ((newF (w) (h) 0).H), v33, v34, v35]) rfl rfl (y_load_stc stcT_frame rfl s152 B117 ⟨rfl, rfl⟩) ?_
      refine wl_v (.int .i64 (0)) rfl rfl (y_mov rfl s155 ⟨rfl, rfl⟩) ?_
      refine wl_call (R := fun v_ w_ => v_ = .tuple #[.int .i64 ((sizeF (newF (w) (h) 0) (0)).1), .int .i64 ((sizeF (newF (w) (h) 0) (0)).2)] ∧ Kept (fun _ => False) w108 w_) rfl rfl (y_cs rfl rfl rfl (fun _ _ => by kernel_rfl) (ev_func _) (vsC rfl (vsC rfl vsN)) (pl_size (0) (newF (w) (h) 0) (v33) (v34) (v35) (T38) (T39) (T40) _  (B114).byt (B115).byt (B116).byt ) (fun e_ w_ h_ => ⟨_, h_.1, rfl, h_.2⟩)) ?_
      rintro _ w156 ⟨rfl, k157⟩
      have B158 := B113.all k157 id
      have B159 := B114.all k157 Apart.none
      have B160 := B115.all k157 Apart.none
      have B161 := B116.all k157 Apart.none
      have B162 := B117.all k157 id
      have B163 := B118.all k157 Apart.none
      have B164 := B111.all k157 Apart.none
      have K165 := K119.trans k157 (fun _ _ x => x.elim)
      refine wl_v (.tuple #[.int .i64 ((sizeF (newF (w) (h) 0) (0)).1), .int .i64 ((sizeF (newF (w) (h) 0) (0)).2)]) rfl rfl (y_mov rfl rfl ⟨rfl, rfl⟩) ?_
      refine wl_v (.int .i64 ((sizeF (newF (w) (h) 0) (0)).1)) rfl rfl (y_ext rfl rfl rfl ⟨rfl, rfl⟩) ?_
      refine wl_v (.int .i64 ((sizeF (newF (w) (h) 0) (0)).2)) rfl rfl (y_ext rfl rfl rfl ⟨rfl, rfl⟩) ?_
      refine wl_v (.int .i64 ((sizeF (newF (w) (h) 0) (0)).1)) rfl rfl (y_asg rfl rfl ⟨rfl, rfl⟩) ?_
      refine wl_v (.int .i64 ((sizeF (newF (w) (h) 0) (0)).2)) rfl rfl (y_asg rfl rfl ⟨rfl, rfl⟩) ?_
      refine wl_nil fun F166 hF167 => ?_
      have s168 : F166 55 = undef := (hF167 55).trans s150
      have s169 : F166 6 = .pointer (some ⟨p1, 0, none⟩) := (hF167 6).trans s151
      have s170 : F166 8 = .pointer (some ⟨p58, 0, none⟩) := (hF167 8).trans s152
      have s171 : F166 9 = v107 := (hF167 9).trans s153
      have s172 : F166 30 = .int .i64 (0) := (hF167 30).trans s154
      have s173 : F166 10 = .int .i64 (0) := (hF167 10).trans s155
      have s174 : F166 11 = .int .i64 ((sizeF (newF (w) (h) 0) (0)).1) := (hF167 11).trans rfl
      have s175 : F166 12 = .int .i64 ((sizeF (newF (w) (h) 0) (0)).2) := (hF167 12).trans rfl
      clear hF167
      refine then_normal ?_
      refine wq_seq ?_
      obtain ⟨pw0, hpw0⟩ : ∃ q, q = pn2 a (a / 2) 0 := ⟨_, rfl⟩
      obtain ⟨ph0, hph0⟩ : ∃ q, q = pn2 b (b / 2) 0 := ⟨_, rfl⟩
      have hA0 : (newF w h 0).p0 = List.replicate (ph0 * pw0) 0 := by rw [hpw0, hph0]; first | exact (new_planes 0 hsw hsh ha hb).1 | exact (new_planes 0 hsw hsh ha hb).2.1 | exact (new_planes 0 hsw hsh ha hb).2.2
      have hE0 : (newF w h s).p0 = List.replicate (ph0 * pw0) s := by rw [hpw0, hph0]; first | exact (new_planes s hsw hsh ha hb).1 | exact (new_planes s hsw hsh ha hb).2.1 | exact (new_planes s hsw hsh ha hb).2.2
      have hB0 : pw0 ≤ a ∧ pw0 ≤ 64 ∧ ph0 ≤ 64 := by have e1 := pn2_le a (a / 2) 0; have e2 := pn2_le b (b / 2) 0; omega
      have s176 : F166 11 = .int .i64 (((pw0 : Nat) : Int)) := s174.trans (congrArg (Value.int .i64) (by rw [hpw0]; (refine size_fst hsw hsh ?_ ?_ ?_ ?_ ?_ 0 (by decide) ha hb <;> first | exact (new_side 0 hsw hsh).1 | exact (new_side 0 hsw hsh).2 | exact hl0 | exact hl1 | rfl)))
      have s177 : F166 12 = .int .i64 (((ph0 : Nat) : Int)) := s175.trans (congrArg (Value.int .i64) (by rw [hph0]; (refine size_snd hsw hsh ?_ ?_ ?_ ?_ ?_ 0 (by decide) ha hb <;> first | exact (new_side 0 hsw hsh).1 | exact (new_side 0 hsw hsh).2 | exact hl0 | exact hl1 | rfl)))
      refine wq_region ?_
      refine wl_v (.int .i64 (((ph0 : Nat) : Int))) rfl rfl (y_mov rfl s177 ⟨rfl, rfl⟩) ?_
      refine wl_v (.int .i64 (0)) rfl rfl (y_mov rfl rfl ⟨rfl, rfl⟩) ?_
      refine wl_nil fun F178 hF179 => ?_
      have s180 : F178 55 = undef := (hF179 55).trans s168
      have s181 : F178 6 = .pointer (some ⟨p1, 0, none⟩) := (hF179 6).trans s169
      have s182 : F178 8 = .pointer (some ⟨p58, 0, none⟩) := (hF179 8).trans s170
      have s183 : F178 9 = v107 := (hF179 9).trans s171
      have s184 : F178 30 = .int .i64 (0) := (hF179 30).trans s172
      have s185 : F178 10 = .int .i64 (0) := (hF179 10).trans s173
      have s186 : F178 11 = .int .i64 (((pw0 : Nat) : Int)) := (hF179 11).trans s176
      have s187 : F178 39 = .int .i64 (((ph0 : Nat) : Int)) := (hF179 39).trans rfl
      have s188 : F178 40 = .int .i64 (0) := (hF179 40).trans rfl
      clear hF179
      refine then_normal ?_
      refine wq_block ?_
      refine wq_loop (fun nn FF ww => ∃ (y : Nat), ∃ (T189 : Nat → Prop), (y ≤ ph0) ∧ nn = ph0 - y ∧ FF 6 = .pointer (some ⟨p1, 0, none⟩) ∧ FF 8 = .pointer (some ⟨p58, 0, none⟩) ∧ FF 9 = v107 ∧ FF 10 = .int .i64 (0) ∧ FF 11 = .int .i64 (((pw0 : Nat) : Int)) ∧ FF 30 = .int .i64 (0) ∧ FF 39 = .int .i64 (((ph0 : Nat) : Int)) ∧ FF 55 = undef ∧ FF 40 = .int .i64 (((y : Nat) : Int)) ∧ Kept (fun _ => False) w0 ww ∧ Stc ww p1 25 [.int .i64 (0), .int .i64 (0), .slice none 0 0, .slice none 0 0, .slice none 0 0] ∧ Owb ww (T189) v33 (fillL (ph0 * pw0) s (y * pw0)) ∧ Owb ww (T39) v34 ((newF (w) (h) 0).p1) ∧ Owb ww (T40) v35 ((newF (w) (h) 0).p2) ∧ Stc ww p58 25 [.int .i64 ((newF (w) (h) 0).W), .int .i64 ((newF (w) (h) 0).H), v33, v34, v35] ∧ Owb ww (T94) v89 ([s]) ∧ Byt ww (T110) v107 (List.replicate (a) (s)) ∧ Grew w0 (noB) T189 ∧ Apart (T189) (onB p1) ∧ Apart (T189) (T39) ∧ Apart (T189) (T40) ∧ Apart (T189) (onB p58) ∧ Apart (T189) (T94) ∧ Apart (T189) (T110)) (ph0 - (0)) ⟨0, T38, by omega, rfl, s181, s182, s183, s185, s186, s184, s187, s180, s188, K165, B158, Owb.of_eq (fill_start hA0) B159, B160, B161, B162, B163, B164, gr52, ap53, ap47, ap48, (ap65).symm, (ap97).symm, (ap122).symm⟩ ?_
      rintro n193 F190 w191 ⟨y, T189, i194, hn193, s195, s196, s197, s198, s199, s200, s201, s202, s203, K192, B204, B205, B206, B207, B208, B209, B210, gr211, ap212, ap213, ap214, ap215, ap216, ap217⟩
      refine wq_seq ?_
      refine wq_region ?_
      refine wl_v (.bool (decide ((((y : Nat) : Int)) < (((ph0 : Nat) : Int))))) rfl rfl (y_lss rfl s203 s201 rfl ⟨rfl, rfl⟩) ?_
      refine wl_nil fun F218 hF219 => ?_
      have s220 : F218 6 = .pointer (some ⟨p1, 0, none⟩) := (hF219 6).trans s195
      have s221 : F218 8 = .pointer (some ⟨p58, 0, none⟩) := (hF219 8).trans s196
      have s222 : F218 9 = v107 := (hF219 9).trans s197
      have s223 : F218 10 = .int .i64 (0) := (hF219 10).trans s198
      have s224 : F218 11 = .int .i64 (((pw0 : Nat) : Int)) := (hF219 11).trans s199
      have s225 : F218 30 = .int .i64 (0) := (hF219 30).trans s200
      have s226 : F218 39 = .int .i64 (((ph0 : Nat) : Int)) := (hF219 39).trans s201
      have s227 : F218 55 = undef := (hF219 55).trans s202
      have s228 : F218 40 = .int .i64 (((y : Nat) : Int)) := (hF219 40).trans s203
      have s229 : F218 41 = .bool (decide ((((y : Nat) : Int)) < (((ph0 : Nat) : Int)))) := (hF219 41).trans rfl
      clear hF219
      refine then_normal ?_
      refine wq_seq ?_
      refine wq_cond s229 (fun c230 => ?_) (fun c230 => ?_)
      · replace c230 := of_decide_eq_true c230
        refine wq_skip ?_
        refine then_normal ?_
        refine wq_seq ?_
        refine wq_block ?_
        refine wq_seq ?_
        refine wq_region ?_
        refine wl_v (.int .i64 (((y : Nat) : Int))) rfl rfl (y_mov rfl s228 ⟨rfl, rfl⟩) ?_
        refine wl_v (.int .i64 (((y : Nat) : Int))) rfl rfl (y_asg rfl rfl ⟨rfl, rfl⟩) ?_
        refine wl_nil fun F231 hF232 => ?_
        have s233 : F231 6 = .pointer (some ⟨p1, 0, none⟩) := (hF232 6).trans s220
        have s234 : F231 8 = .pointer (some ⟨p58, 0, none⟩) := (hF232 8).trans s221
        have s235 : F231 9 = v107 := (hF232 9).trans s222
        have s236 : F231 10 = .int .i64 (0) := (hF232 10).trans s223
        have s237 : F231 11 = .int .i64 (((pw0 : Nat) : Int)) := (hF232 11).trans s224
        have s238 : F231 30 = .int .i64 (0) := (hF232 30).trans s225
        have s239 : F231 39 = .int .i64 (((ph0 : Nat) : Int)) := (hF232 39).trans s226
        have s240 : F231 55 = undef := (hF232 55).trans s227
        have s241 : F231 40 = .int .i64 (((y : Nat) : Int)) := (hF232 40).trans s228
        have s242 : F231 13 = .int .i64 (((y : Nat) : Int)) := (hF232 13).trans rfl
        clear hF232
        refine then_normal ?_
        have hz := row_fact (y := y) (pw := pw0) (ph := ph0) (by omega) hB0.2.1 hB0.2.2
        have hfl : (fillL (ph0 * pw0) s (y * pw0)).length = ph0 * pw0 := fill_length (by omega)
        refine wq_region ?_
        refine wl_v (.int .i64 (0)) rfl rfl (y_mov rfl s236 ⟨rfl, rfl⟩) ?_
        refine wl_v (.pointer (some ⟨p58, 2, none⟩)) rfl rfl (y_fieldR (n := 3) rfl s234 Try.underlying25 rfl (by kernel_rfl) (by decide) rfl ⟨rfl, rfl⟩) ?_
        refine wl_v (.pointer (some ⟨p58, 2, none⟩)) rfl rfl (y_atR (0) (s := 1) rfl rfl rfl (by omega) Try.underlying23 (by omega) (by kernel_rfl) (by omega) ⟨rfl, rfl⟩) ?_
        refine wl_v (v33) rfl rfl (y_ld_stc rfl rfl Try.underlying22 B208 rfl rfl ⟨rfl, rfl⟩) ?_
        refine wl_v (.int .i64 (((pw0 : Nat) : Int))) rfl rfl (y_mov rfl s237 ⟨rfl, rfl⟩) ?_
        refine wl_v (.int .i64 (((y : Nat) : Int))) rfl rfl (y_mov rfl s242 ⟨rfl, rfl⟩) ?_
        refine wl_call (R := fun v_ w_ => v_ = subV (v33) (((((y : Nat) : Int)) * (((pw0 : Nat) : Int))).toNat) (((((y : Nat) : Int)) * (((pw0 : Nat) : Int)) + (((pw0 : Nat) : Int))).toNat) (((((y : Nat) : Int)) * (((pw0 : Nat) : Int)) + (((pw0 : Nat) : Int))).toNat) ∧ Kept (fun _ => False) w191 w_) rfl rfl (y_cs rfl rfl rfl (fun _ _ => by kernel_rfl) (ev_func _) (vsC rfl (vsC rfl (vsC rfl vsN))) (ps_row (v33) (fillL (ph0 * pw0) s (y * pw0)) (((pw0 : Nat) : Int)) (((y : Nat) : Int)) (T189) _ (by omega) (by omega) (by rw [hfl]; exact hz.2.2.2) (by omega) (B205).byt ) (fun e_ w_ h_ => ⟨_, h_.1, rfl, h_.2⟩)) ?_
        rintro _ w243 ⟨rfl, k244⟩
        have B245 := B204.all k244 id
        have B246 := B205.all k244 Apart.none
        have B247 := B206.all k244 Apart.none
        have B248 := B207.all k244 Apart.none
        have B249 := B208.all k244 id
        have B250 := B209.all k244 Apart.none
        have B251 := B210.all k244 Apart.none
        have K252 := K192.trans k244 (fun _ _ x => x.elim)
        refine wl_v (v107) rfl rfl (y_mov rfl s235 ⟨rfl, rfl⟩) ?_
        refine wl_copyM rfl rfl rfl rfl rfl (part_sub (B246).byt (by omega)) rfl B246 B251 (by rw [hfl]; omega) fun w254 B256 k255 => ?_
        have B259 := B245.all k255 (fun x => (((ap212).symm) p1 rfl x))
        have B260 := B247.all k255 (fun i h x => (((ap213).symm) i h x))
        have B261 := B248.all k255 (fun i h x => (((ap214).symm) i h x))
        have B262 := B249.all k255 (fun x => (((ap215).symm) p58 rfl x))
        have B263 := B250.all k255 (fun i h x => (((ap216).symm) i h x))
        have B264 := B251.all k255 (fun i h x => (((ap217).symm) i h x))
        have K265 := K252.trans k255 (Grew.ok (S := fun _ => False) gr211 noB_le)
        refine wl_nil fun F266 hF267 => ?_
        have s268 : F266 6 = .pointer (some ⟨p1, 0, none⟩) := (hF267 6).trans s233
        have s269 : F266 8 = .pointer (some ⟨p58, 0, none⟩) := (hF267 8).trans s234
        have s270 : F266 9 = v107 := (hF267 9).trans s235
        have s271 : F266 10 = .int .i64 (0) := (hF267 10).trans s236
        have s272 : F266 11 = .int .i64 (((pw0 : Nat) : Int)) := (hF267 11).trans s237
        have s273 : F266 30 = .int .i64 (0) := (hF267 30).trans s238
        have s274 : F266 39 = .int .i64 (((ph0 : Nat) : Int)) := (hF267 39).trans s239
        have s275 : F266 55 = undef := (hF267 55).trans s240
        have s276 : F266 40 = .int .i64 (((y : Nat) : Int)) := (hF267 40).trans s241
        clear hF267
        refine in_normal ?_
        refine then_normal ?_
        refine wq_region ?_
        refine wl_v (.int .i64 (((y + 1 : Nat) : Int))) rfl rfl (y_add rfl s276 rfl (i64_n (by omega) (by omega)) ⟨rfl, rfl⟩) ?_
        refine wl_v (.int .i64 (((y + 1 : Nat) : Int))) rfl rfl (y_mov rfl rfl ⟨rfl, rfl⟩) ?_
        refine wl_nil fun F277 hF278 => ?_
        have s279 : F277 6 = .pointer (some ⟨p1, 0, none⟩) := (hF278 6).trans s268
        have s280 : F277 8 = .pointer (some ⟨p58, 0, none⟩) := (hF278 8).trans s269
        have s281 : F277 9 = v107 := (hF278 9).trans s270
        have s282 : F277 10 = .int .i64 (0) := (hF278 10).trans s271
        have s283 : F277 11 = .int .i64 (((pw0 : Nat) : Int)) := (hF278 11).trans s272
        have s284 : F277 30 = .int .i64 (0) := (hF278 30).trans s273
        have s285 : F277 39 = .int .i64 (((ph0 : Nat) : Int)) := (hF278 39).trans s274
        have s286 : F277 55 = undef := (hF278 55).trans s275
        have s287 : F277 40 = .int .i64 (((y + 1 : Nat) : Int)) := (hF278 40).trans rfl
        clear hF278
        exact then_normal ⟨(ph0 - (y + 1)), by omega, y + 1, T189, by omega, rfl, s279, s280, s281, s282, s283, s284, s285, s286, s287, K265, B259, Owb.of_eq (fill_next hB0.1) B256, B260, B261, B262, B263, B264, gr211, ap212, ap213, ap214, ap215, ap216, ap217⟩
      · replace c230 := of_decide_eq_false c230
        refine wq_exit ?_
        refine then_exit ?_
        refine then_exit ?_
        have l288 : ph0 = y := by omega
        subst l288
        have hl0 : (fillL (ph0 * pw0) s (ph0 * pw0)).length = (newF w h 0).p0.length := by rw [fill_length (Nat.le_refl _), hA0, List.length_replicate]
        refine in_here ?_
        refine in_normal ?_
        refine then_normal ?_
        refine wq_region ?_
        refine wl_v (.int .i64 (((1 : Nat) : Int))) rfl rfl (y_add rfl s225 rfl (i64_n (by omega) (by omega)) ⟨rfl, rfl⟩) ?_
        refine wl_v (.int .i64 (((1 : Nat) : Int))) rfl rfl (y_mov rfl rfl ⟨rfl, rfl⟩) ?_
        refine wl_nil fun F289 hF290 => ?_
        have s291 : F289 6 = .pointer (some ⟨p1, 0, none⟩) := (hF290 6).trans s220
        have s292 : F289 8 = .pointer (some ⟨p58, 0, none⟩) := (hF290 8).trans s221
        have s293 : F289 9 = v107 := (hF290 9).trans s222
        have s294 : F289 55 = undef := (hF290 55).trans s227
        have s295 : F289 30 = .int .i64 (((1 : Nat) : Int)) := (hF290 30).trans rfl
        clear hF290
        refine then_normal ?_
        refine wqr_step ?_
        refine wq_seq ?_
        refine wq_region ?_
        refine wl_v (.bool true) rfl rfl (y_lss rfl s295 rfl rfl ⟨rfl, rfl⟩) ?_
        refine wl_nil fun F296 hF297 => ?_
        have s298 : F296 6 = .pointer (some ⟨p1, 0, none⟩) := (hF297 6).trans s291
        have s299 : F296 8 = .pointer (some ⟨p58, 0, none⟩) := (hF297 8).trans s292
        have s300 : F296 9 = v107 := (hF297 9).trans s293
        have s301 : F296 55 = undef := (hF297 55).trans s294
        have s302 : F296 30 = .int .i64 (((1 : Nat) : Int)) := (hF297 30).trans s295
        have s303 : F296 31 = .bool true := (hF297 31).trans rfl
        clear hF297
        refine then_normal ?_
        refine wq_seq ?_
        refine wq_cond (t := true) s303 (fun _ => ?_) (fun e => by cases e)
        refine wq_skip ?_
        refine then_normal ?_
        refine wq_seq ?_
        refine wq_block ?_
        refine wq_seq ?_
        refine wq_region ?_
        refine wl_v (.int .i64 (((1 : Nat) : Int))) rfl rfl (y_mov rfl s302 ⟨rfl, rfl⟩) ?_
        refine wl_v (.int .i64 (((1 : Nat) : Int))) rfl rfl (y_asg rfl rfl ⟨rfl, rfl⟩) ?_
        refine wl_nil fun F304 hF305 => ?_
        have s306 : F304 6 = .pointer (some ⟨p1, 0, none⟩) := (hF305 6).trans s298
        have s307 : F304 8 = .pointer (some ⟨p58, 0, none⟩) := (hF305 8).trans s299
        have s308 : F304 9 = v107 := (hF305 9).trans s300
        have s309 : F304 55 = undef := (hF305 55).trans s301
        have s310 : F304 30 = .int .i64 (((1 : Nat) : Int)) := (hF305 30).trans s302
        have s311 : F304 10 = .int .i64 (((1 : Nat) : Int)) := (hF305 10).trans rfl
        clear hF305
        refine then_normal ?_
        refine wq_seq ?_
        refine wq_region ?_
        refine wl_v (.agg #[.int .i64 ((newF (w) (h) 0).W), .int .i64 ((newF (w) (h) 0).H), v33, v34, v35]) rfl rfl (y_load_stc stcT_frame rfl s307 B208 ⟨rfl, rfl⟩) ?_
        refine wl_v (.int .i64 (((1 : Nat) : Int))) rfl rfl (y_mov rfl s311 ⟨rfl, rfl⟩) ?_
        refine wl_call (R := fun v_ w_ => v_ = .tuple #[.int .i64 ((sizeF (FD.mk ((newF (w) (h) 0).W) ((newF (w) (h) 0).H) (fillL (ph0 * pw0) s (ph0 * pw0)) ((newF (w) (h) 0).p1) ((newF (w) (h) 0).p2)) (((1 : Nat) : Int))).1), .int .i64 ((sizeF (FD.mk ((newF (w) (h) 0).W) ((newF (w) (h) 0).H) (fillL (ph0 * pw0) s (ph0 * pw0)) ((newF (w) (h) 0).p1) ((newF (w) (h) 0).p2)) (((1 : Nat) : Int))).2)] ∧ Kept (fun _ => False) w191 w_) rfl rfl (y_cs rfl rfl rfl (fun _ _ => by kernel_rfl) (ev_func _) (vsC rfl (vsC rfl vsN)) (pl_size (((1 : Nat) : Int)) (FD.mk ((newF (w) (h) 0).W) ((newF (w) (h) 0).H) (fillL (ph0 * pw0) s (ph0 * pw0)) ((newF (w) (h) 0).p1) ((newF (w) (h) 0).p2)) (v33) (v34) (v35) (T189) (T39) (T40) _  (B205).byt (B206).byt (B207).byt ) (fun e_ w_ h_ => ⟨_, h_.1, rfl, h_.2⟩)) ?_
        rintro _ w312 ⟨rfl, k313⟩
        have B314 := B204.all k313 id
        have B315 := B205.all k313 Apart.none
        have B316 := B206.all k313 Apart.none
        have B317 := B207.all k313 Apart.none
        have B318 := B208.all k313 id
        have B319 := B209.all k313 Apart.none
        have B320 := B210.all k313 Apart.none
        have K321 := K192.trans k313 (fun _ _ x => x.elim)
        refine wl_v (.tuple #[.int .i64 ((sizeF (FD.mk ((newF (w) (h) 0).W) ((newF (w) (h) 0).H) (fillL (ph0 * pw0) s (ph0 * pw0)) ((newF (w) (h) 0).p1) ((newF (w) (h) 0).p2)) (((1 : Nat) : Int))).1), .int .i64 ((sizeF (FD.mk ((newF (w) (h) 0).W) ((newF (w) (h) 0).H) (fillL (ph0 * pw0) s (ph0 * pw0)) ((newF (w) (h) 0).p1) ((newF (w) (h) 0).p2)) (((1 : Nat) : Int))).2)]) rfl rfl (y_mov rfl rfl ⟨rfl, rfl⟩) ?_
        refine wl_v (.int .i64 ((sizeF (FD.mk ((newF (w) (h) 0).W) ((newF (w) (h) 0).H) (fillL (ph0 * pw0) s (ph0 * pw0)) ((newF (w) (h) 0).p1) ((newF (w) (h) 0).p2)) (((1 : Nat) : Int))).1)) rfl rfl (y_ext rfl rfl rfl ⟨rfl, rfl⟩) ?_
        refine wl_v (.int .i64 ((sizeF (FD.mk ((newF (w) (h) 0).W) ((newF (w) (h) 0).H) (fillL (ph0 * pw0) s (ph0 * pw0)) ((newF (w) (h) 0).p1) ((newF (w) (h) 0).p2)) (((1 : Nat) : Int))).2)) rfl rfl (y_ext rfl rfl rfl ⟨rfl, rfl⟩) ?_
        refine wl_v (.int .i64 ((sizeF (FD.mk ((newF (w) (h) 0).W) ((newF (w) (h) 0).H) (fillL (ph0 * pw0) s (ph0 * pw0)) ((newF (w) (h) 0).p1) ((newF (w) (h) 0).p2)) (((1 : Nat) : Int))).1)) rfl rfl (y_asg rfl rfl ⟨rfl, rfl⟩) ?_
        refine wl_v (.int .i64 ((sizeF (FD.mk ((newF (w) (h) 0).W) ((newF (w) (h) 0).H) (fillL (ph0 * pw0) s (ph0 * pw0)) ((newF (w) (h) 0).p1) ((newF (w) (h) 0).p2)) (((1 : Nat) : Int))).2)) rfl rfl (y_asg rfl rfl ⟨rfl, rfl⟩) ?_
        refine wl_nil fun F322 hF323 => ?_
        have s324 : F322 6 = .pointer (some ⟨p1, 0, none⟩) := (hF323 6).trans s306
        have s325 : F322 8 = .pointer (some ⟨p58, 0, none⟩) := (hF323 8).trans s307
        have s326 : F322 9 = v107 := (hF323 9).trans s308
        have s327 : F322 55 = undef := (hF323 55).trans s309
        have s328 : F322 30 = .int .i64 (((1 : Nat) : Int)) := (hF323 30).trans s310
        have s329 : F322 10 = .int .i64 (((1 : Nat) : Int)) := (hF323 10).trans s311
        have s330 : F322 11 = .int .i64 ((sizeF (FD.mk ((newF (w) (h) 0).W) ((newF (w) (h) 0).H) (fillL (ph0 * pw0) s (ph0 * pw0)) ((newF (w) (h) 0).p1) ((newF (w) (h) 0).p2)) (((1 : Nat) : Int))).1) := (hF323 11).trans rfl
        have s331 : F322 12 = .int .i64 ((sizeF (FD.mk ((newF (w) (h) 0).W) ((newF (w) (h) 0).H) (fillL (ph0 * pw0) s (ph0 * pw0)) ((newF (w) (h) 0).p1) ((newF (w) (h) 0).p2)) (((1 : Nat) : Int))).2) := (hF323 12).trans rfl
        clear hF323
        refine then_normal ?_
        refine wq_seq ?_
        obtain ⟨pw1, hpw1⟩ : ∃ q, q = pn2 a (a / 2) 1 := ⟨_, rfl⟩
        obtain ⟨ph1, hph1⟩ : ∃ q, q = pn2 b (b / 2) 1 := ⟨_, rfl⟩
        have hA1 : (newF w h 0).p1 = List.replicate (ph1 * pw1) 0 := by rw [hpw1, hph1]; first | exact (new_planes 0 hsw hsh ha hb).1 | exact (new_planes 0 hsw hsh ha hb).2.1 | exact (new_planes 0 hsw hsh ha hb).2.2
        have hE1 : (newF w h s).p1 = List.replicate (ph1 * pw1) s := by rw [hpw1, hph1]; first | exact (new_planes s hsw hsh ha hb).1 | exact (new_planes s hsw hsh ha hb).2.1 | exact (new_planes s hsw hsh ha hb).2.2
        have hB1 : pw1 ≤ a ∧ pw1 ≤ 64 ∧ ph1 ≤ 64 := by have e1 := pn2_le a (a / 2) 1; have e2 := pn2_le b (b / 2) 1; omega
        have s332 : F322 11 = .int .i64 (((pw1 : Nat) : Int)) := s330.trans (congrArg (Value.int .i64) (by rw [hpw1]; (refine size_fst hsw hsh ?_ ?_ ?_ ?_ ?_ 1 (by decide) ha hb <;> first | exact (new_side 0 hsw hsh).1 | exact (new_side 0 hsw hsh).2 | exact hl0 | exact hl1 | rfl)))
        have s333 : F322 12 = .int .i64 (((ph1 : Nat) : Int)) := s331.trans (congrArg (Value.int .i64) (by rw [hph1]; (refine size_snd hsw hsh ?_ ?_ ?_ ?_ ?_ 1 (by decide) ha hb <;> first | exact (new_side 0 hsw hsh).1 | exact (new_side 0 hsw hsh).2 | exact hl0 | exact hl1 | rfl)))
        refine wq_region ?_
        refine wl_v (.int .i64 (((ph1 : Nat) : Int))) rfl rfl (y_mov rfl s333 ⟨rfl, rfl⟩) ?_
        refine wl_v (.int .i64 (0)) rfl rfl (y_mov rfl rfl ⟨rfl, rfl⟩) ?_
        refine wl_nil fun F334 hF335 => ?_
        have s336 : F334 6 = .pointer (some ⟨p1, 0, none⟩) := (hF335 6).trans s324
        have s337 : F334 8 = .pointer (some ⟨p58, 0, none⟩) := (hF335 8).trans s325
        have s338 : F334 9 = v107 := (hF335 9).trans s326
        have s339 : F334 55 = undef := (hF335 55).trans s327
        have s340 : F334 30 = .int .i64 (((1 : Nat) : Int)) := (hF335 30).trans s328
        have s341 : F334 10 = .int .i64 (((1 : Nat) : Int)) := (hF335 10).trans s329
        have s342 : F334 11 = .int .i64 (((pw1 : Nat) : Int)) := (hF335 11).trans s332
        have s343 : F334 39 = .int .i64 (((ph1 : Nat) : Int)) := (hF335 39).trans rfl
        have s344 : F334 40 = .int .i64 (0) := (hF335 40).trans rfl
        clear hF335
        refine then_normal ?_
        refine wq_block ?_
        refine wq_loop (fun nn FF ww => ∃ (y : Nat), ∃ (T345 : Nat → Prop), (y ≤ ph1) ∧ nn = ph1 - y ∧ FF 6 = .pointer (some ⟨p1, 0, none⟩) ∧ FF 8 = .pointer (some ⟨p58, 0, none⟩) ∧ FF 9 = v107 ∧ FF 10 = .int .i64 (((1 : Nat) : Int)) ∧ FF 11 = .int .i64 (((pw1 : Nat) : Int)) ∧ FF 30 = .int .i64 (((1 : Nat) : Int)) ∧ FF 39 = .int .i64 (((ph1 : Nat) : Int)) ∧ FF 55 = undef ∧ FF 40 = .int .i64 (((y : Nat) : Int)) ∧ Kept (fun _ => False) w0 ww ∧ Stc ww p1 25 [.int .i64 (0), .int .i64 (0), .slice none 0 0, .slice none 0 0, .slice none 0 0] ∧ Owb ww (T189) v33 (fillL (ph0 * pw0) s (ph0 * pw0)) ∧ Owb ww (T345) v34 (fillL (ph1 * pw1) s (y * pw1)) ∧ Owb ww (T40) v35 ((newF (w) (h) 0).p2) ∧ Stc ww p58 25 [.int .i64 ((newF (w) (h) 0).W), .int .i64 ((newF (w) (h) 0).H), v33, v34, v35] ∧ Owb ww (T94) v89 ([s]) ∧ Byt ww (T110) v107 (List.replicate (a) (s)) ∧ Grew w0 (noB) T345 ∧ Apart (T345) (onB p1) ∧ Apart (T345) (T189) ∧ Apart (T345) (T40) ∧ Apart (T345) (onB p58) ∧ Apart (T345) (T94) ∧ Apart (T345) (T110)) (ph1 - (0)) ⟨0, T39, by omega, rfl, s336, s337, s338, s341, s342, s340, s343, s339, s344, K321, B314, B315, Owb.of_eq (fill_start hA1) B316, B317, B318, B319, B320, gr54, ap55, (ap213).symm, ap49, (ap66).symm, (ap98).symm, (ap123).symm⟩ ?_
        rintro n349 F346 w347 ⟨y, T345, i350, hn349, s351, s352, s353, s354, s355, s356, s357, s358, s359, K348, B360, B361, B362, B363, B364, B365, B366, gr367, ap368, ap369, ap370, ap371, ap372, ap373⟩
        refine wq_seq ?_
        refine wq_region ?_
        refine wl_v (.bool (decide ((((y : Nat) : Int)) < (((ph1 : Nat) : Int))))) rfl rfl (y_lss rfl s359 s357 rfl ⟨rfl, rfl⟩) ?_
        refine wl_nil fun F374 hF375 => ?_
        have s376 : F374 6 = .pointer (some ⟨p1, 0, none⟩) := (hF375 6).trans s351
        have s377 : F374 8 = .pointer (some ⟨p58, 0, none⟩) := (hF375 8).trans s352
        have s378 : F374 9 = v107 := (hF375 9).trans s353
        have s379 : F374 10 = .int .i64 (((1 : Nat) : Int)) := (hF375 10).trans s354
        have s380 : F374 11 = .int .i64 (((pw1 : Nat) : Int)) := (hF375 11).trans s355
        have s381 : F374 30 = .int .i64 (((1 : Nat) : Int)) := (hF375 30).trans s356
        have s382 : F374 39 = .int .i64 (((ph1 : Nat) : Int)) := (hF375 39).trans s357
        have s383 : F374 55 = undef := (hF375 55).trans s358
        have s384 : F374 40 = .int .i64 (((y : Nat) : Int)) := (hF375 40).trans s359
        have s385 : F374 41 = .bool (decide ((((y : Nat) : Int)) < (((ph1 : Nat) : Int)))) := (hF375 41).trans rfl
        clear hF375
        refine then_normal ?_
        refine wq_seq ?_
        refine wq_cond s385 (fun c386 => ?_) (fun c386 => ?_)
        · replace c386 := of_decide_eq_true c386
          refine wq_skip ?_
          refine then_normal ?_
          refine wq_seq ?_
          refine wq_block ?_
          refine wq_seq ?_
          refine wq_region ?_
          refine wl_v (.int .i64 (((y : Nat) : Int))) rfl rfl (y_mov rfl s384 ⟨rfl, rfl⟩) ?_
          refine wl_v (.int .i64 (((y : Nat) : Int))) rfl rfl (y_asg rfl rfl ⟨rfl, rfl⟩) ?_
          refine wl_nil fun F387 hF388 => ?_
          have s389 : F387 6 = .pointer (some ⟨p1, 0, none⟩) := (hF388 6).trans s376
          have s390 : F387 8 = .pointer (some ⟨p58, 0, none⟩) := (hF388 8).trans s377
          have s391 : F387 9 = v107 := (hF388 9).trans s378
          have s392 : F387 10 = .int .i64 (((1 : Nat) : Int)) := (hF388 10).trans s379
          have s393 : F387 11 = .int .i64 (((pw1 : Nat) : Int)) := (hF388 11).trans s380
          have s394 : F387 30 = .int .i64 (((1 : Nat) : Int)) := (hF388 30).trans s381
          have s395 : F387 39 = .int .i64 (((ph1 : Nat) : Int)) := (hF388 39).trans s382
          have s396 : F387 55 = undef := (hF388 55).trans s383
          have s397 : F387 40 = .int .i64 (((y : Nat) : Int)) := (hF388 40).trans s384
          have s398 : F387 13 = .int .i64 (((y : Nat) : Int)) := (hF388 13).trans rfl
          clear hF388
          refine then_normal ?_
          have hz := row_fact (y := y) (pw := pw1) (ph := ph1) (by omega) hB1.2.1 hB1.2.2
          have hfl : (fillL (ph1 * pw1) s (y * pw1)).length = ph1 * pw1 := fill_length (by omega)
          refine wq_region ?_
          refine wl_v (.int .i64 (((1 : Nat) : Int))) rfl rfl (y_mov rfl s392 ⟨rfl, rfl⟩) ?_
          refine wl_v (.pointer (some ⟨p58, 2, none⟩)) rfl rfl (y_fieldR (n := 3) rfl s390 Try.underlying25 rfl (by kernel_rfl) (by decide) rfl ⟨rfl, rfl⟩) ?_
          refine wl_v (.pointer (some ⟨p58, 3, none⟩)) rfl rfl (y_atR (1) (s := 1) rfl rfl rfl (by omega) Try.underlying23 (by omega) (by kernel_rfl) (by omega) ⟨rfl, rfl⟩) ?_
          refine wl_v (v34) rfl rfl (y_ld_stc rfl rfl Try.underlying22 B364 rfl rfl ⟨rfl, rfl⟩) ?_
          refine wl_v (.int .i64 (((pw1 : Nat) : Int))) rfl rfl (y_mov rfl s393 ⟨rfl, rfl⟩) ?_
          refine wl_v (.int .i64 (((y : Nat) : Int))) rfl rfl (y_mov rfl s398 ⟨rfl, rfl⟩) ?_
          refine wl_call (R := fun v_ w_ => v_ = subV (v34) (((((y : Nat) : Int)) * (((pw1 : Nat) : Int))).toNat) (((((y : Nat) : Int)) * (((pw1 : Nat) : Int)) + (((pw1 : Nat) : Int))).toNat) (((((y : Nat) : Int)) * (((pw1 : Nat) : Int)) + (((pw1 : Nat) : Int))).toNat) ∧ Kept (fun _ => False) w347 w_) rfl rfl (y_cs rfl rfl rfl (fun _ _ => by kernel_rfl) (ev_func _) (vsC rfl (vsC rfl (vsC rfl vsN))) (ps_row (v34) (fillL (ph1 * pw1) s (y * pw1)) (((pw1 : Nat) : Int)) (((y : Nat) : Int)) (T345) _ (by omega) (by omega) (by rw [hfl]; exact hz.2.2.2) (by omega) (B362).byt ) (fun e_ w_ h_ => ⟨_, h_.1, rfl, h_.2⟩)) ?_
          rintro _ w399 ⟨rfl, k400⟩
          have B401 := B360.all k400 id
          have B402 := B361.all k400 Apart.none
          have B403 := B362.all k400 Apart.none
          have B404 := B363.all k400 Apart.none
          have B405 := B364.all k400 id
          have B406 := B365.all k400 Apart.none
          have B407 := B366.all k400 Apart.none
          have K408 := K348.trans k400 (fun _ _ x => x.elim)
          refine wl_v (v107) rfl rfl (y_mov rfl s391 ⟨rfl, rfl⟩) ?_
          refine wl_copyM rfl rfl rfl rfl rfl (part_sub (B403).byt (by omega)) rfl B403 B407 (by rw [hfl]; omega) fun w410 B412 k411 => ?_
          have B415 := B401.all k411 (fun x => (((ap368).symm) p1 rfl x))
          have B416 := B402.all k411 (fun i h x => (((ap369).symm) i h x))
          have B417 := B404.all k411 (fun i h x => (((ap370).symm) i h x))
          have B418 := B405.all k411 (fun x => (((ap371).symm) p58 rfl x))
          have B419 := B406.all k411 (fun i h x => (((ap372).symm) i h x))
          have B420 := B407.all k411 (fun i h x => (((ap373).symm) i h x))
          have K421 := K408.trans k411 (Grew.ok (S := fun _ => False) gr367 noB_le)
          refine wl_nil fun F422 hF423 => ?_
          have s424 : F422 6 = .pointer (some ⟨p1, 0, none⟩) := (hF423 6).trans s389
          have s425 : F422 8 = .pointer (some ⟨p58, 0, none⟩) := (hF423 8).trans s390
          have s426 : F422 9 = v107 := (hF423 9).trans s391
          have s427 : F422 10 = .int .i64 (((1 : Nat) : Int)) := (hF423 10).trans s392
          have s428 : F422 11 = .int .i64 (((pw1 : Nat) : Int)) := (hF423 11).trans s393
          have s429 : F422 30 = .int .i64 (((1 : Nat) : Int)) := (hF423 30).trans s394
          have s430 : F422 39 = .int .i64 (((ph1 : Nat) : Int)) := (hF423 39).trans s395
          have s431 : F422 55 = undef := (hF423 55).trans s396
          have s432 : F422 40 = .int .i64 (((y : Nat) : Int)) := (hF423 40).trans s397
          clear hF423
          refine in_normal ?_
          refine then_normal ?_
          refine wq_region ?_
          refine wl_v (.int .i64 (((y + 1 : Nat) : Int))) rfl rfl (y_add rfl s432 rfl (i64_n (by omega) (by omega)) ⟨rfl, rfl⟩) ?_
          refine wl_v (.int .i64 (((y + 1 : Nat) : Int))) rfl rfl (y_mov rfl rfl ⟨rfl, rfl⟩) ?_
          refine wl_nil fun F433 hF434 => ?_
          have s435 : F433 6 = .pointer (some ⟨p1, 0, none⟩) := (hF434 6).trans s424
          have s436 : F433 8 = .pointer (some ⟨p58, 0, none⟩) := (hF434 8).trans s425
          have s437 : F433 9 = v107 := (hF434 9).trans s426
          have s438 : F433 10 = .int .i64 (((1 : Nat) : Int)) := (hF434 10).trans s427
          have s439 : F433 11 = .int .i64 (((pw1 : Nat) : Int)) := (hF434 11).trans s428
          have s440 : F433 30 = .int .i64 (((1 : Nat) : Int)) := (hF434 30).trans s429
          have s441 : F433 39 = .int .i64 (((ph1 : Nat) : Int)) := (hF434 39).trans s430
          have s442 : F433 55 = undef := (hF434 55).trans s431
          have s443 : F433 40 = .int .i64 (((y + 1 : Nat) : Int)) := (hF434 40).trans rfl
          clear hF434
          exact then_normal ⟨(ph1 - (y + 1)), by omega, y + 1, T345, by omega, rfl, s435, s436, s437, s438, s439, s440, s441, s442, s443, K421, B415, B416, Owb.of_eq (fill_next hB1.1) B412, B417, B418, B419, B420, gr367, ap368, ap369, ap370, ap371, ap372, ap373⟩
        · replace c386 := of_decide_eq_false c386
          refine wq_exit ?_
          refine then_exit ?_
          refine then_exit ?_
          have l444 : ph1 = y := by omega
          subst l444
          have hl1 : (fillL (ph1 * pw1) s (ph1 * pw1)).length = (newF w h 0).p1.length := by rw [fill_length (Nat.le_refl _), hA1, List.length_replicate]
          refine in_here ?_
          refine in_normal ?_
          refine then_normal ?_
          refine wq_region ?_
          refine wl_v (.int .i64 (((2 : Nat) : Int))) rfl rfl (y_add rfl s381 rfl (i64_n (by omega) (by omega)) ⟨rfl, rfl⟩) ?_
          refine wl_v (.int .i64 (((2 : Nat) : Int))) rfl rfl (y_mov rfl rfl ⟨rfl, rfl⟩) ?_
          refine wl_nil fun F445 hF446 => ?_
          have s447 : F445 6 = .pointer (some ⟨p1, 0, none⟩) := (hF446 6).trans s376
          have s448 : F445 8 = .pointer (some ⟨p58, 0, none⟩) := (hF446 8).trans s377
          have s449 : F445 9 = v107 := (hF446 9).trans s378
          have s450 : F445 55 = undef := (hF446 55).trans s383
          have s451 : F445 30 = .int .i64 (((2 : Nat) : Int)) := (hF446 30).trans rfl
          clear hF446
          refine then_normal ?_
          refine wqr_step ?_
          refine wq_seq ?_
          refine wq_region ?_
          refine wl_v (.bool true) rfl rfl (y_lss rfl s451 rfl rfl ⟨rfl, rfl⟩) ?_
          refine wl_nil fun F452 hF453 => ?_
          have s454 : F452 6 = .pointer (some ⟨p1, 0, none⟩) := (hF453 6).trans s447
          have s455 : F452 8 = .pointer (some ⟨p58, 0, none⟩) := (hF453 8).trans s448
          have s456 : F452 9 = v107 := (hF453 9).trans s449
          have s457 : F452 55 = undef := (hF453 55).trans s450
          have s458 : F452 30 = .int .i64 (((2 : Nat) : Int)) := (hF453 30).trans s451
          have s459 : F452 31 = .bool true := (hF453 31).trans rfl
          clear hF453
          refine then_normal ?_
          refine wq_seq ?_
          refine wq_cond (t := true) s459 (fun _ => ?_) (fun e => by cases e)
          refine wq_skip ?_
          refine then_normal ?_
          refine wq_seq ?_
          refine wq_block ?_
          refine wq_seq ?_
          refine wq_region ?_
          refine wl_v (.int .i64 (((2 : Nat) : Int))) rfl rfl (y_mov rfl s458 ⟨rfl, rfl⟩) ?_
          refine wl_v (.int .i64 (((2 : Nat) : Int))) rfl rfl (y_asg rfl rfl ⟨rfl, rfl⟩) ?_
          refine wl_nil fun F460 hF461 => ?_
          have s462 : F460 6 = .pointer (some ⟨p1, 0, none⟩) := (hF461 6).trans s454
          have s463 : F460 8 = .pointer (some ⟨p58, 0, none⟩) := (hF461 8).trans s455
          have s464 : F460 9 = v107 := (hF461 9).trans s456
          have s465 : F460 55 = undef := (hF461 55).trans s457
          have s466 : F460 30 = .int .i64 (((2 : Nat) : Int)) := (hF461 30).trans s458
          have s467 : F460 10 = .int .i64 (((2 : Nat) : Int)) := (hF461 10).trans rfl
          clear hF461
          refine then_normal ?_
          refine wq_seq ?_
          refine wq_region ?_
          refine wl_v (.agg #[.int .i64 ((newF (w) (h) 0).W), .int .i64 ((newF (w) (h) 0).H), v33, v34, v35]) rfl rfl (y_load_stc stcT_frame rfl s463 B364 ⟨rfl, rfl⟩) ?_
          refine wl_v (.int .i64 (((2 : Nat) : Int))) rfl rfl (y_mov rfl s467 ⟨rfl, rfl⟩) ?_
          refine wl_call (R := fun v_ w_ => v_ = .tuple #[.int .i64 ((sizeF (FD.mk ((newF (w) (h) 0).W) ((newF (w) (h) 0).H) (fillL (ph0 * pw0) s (ph0 * pw0)) (fillL (ph1 * pw1) s (ph1 * pw1)) ((newF (w) (h) 0).p2)) (((2 : Nat) : Int))).1), .int .i64 ((sizeF (FD.mk ((newF (w) (h) 0).W) ((newF (w) (h) 0).H) (fillL (ph0 * pw0) s (ph0 * pw0)) (fillL (ph1 * pw1) s (ph1 * pw1)) ((newF (w) (h) 0).p2)) (((2 : Nat) : Int))).2)] ∧ Kept (fun _ => False) w347 w_) rfl rfl (y_cs rfl rfl rfl (fun _ _ => by kernel_rfl) (ev_func _) (vsC rfl (vsC rfl vsN)) (pl_size (((2 : Nat) : Int)) (FD.mk ((newF (w) (h) 0).W) ((newF (w) (h) 0).H) (fillL (ph0 * pw0) s (ph0 * pw0)) (fillL (ph1 * pw1) s (ph1 * pw1)) ((newF (w) (h) 0).p2)) (v33) (v34) (v35) (T189) (T345) (T40) _  (B361).byt (B362).byt (B363).byt ) (fun e_ w_ h_ => ⟨_, h_.1, rfl, h_.2⟩)) ?_
          rintro _ w468 ⟨rfl, k469⟩
          have B470 := B360.all k469 id
          have B471 := B361.all k469 Apart.none
          have B472 := B362.all k469 Apart.none
          have B473 := B363.all k469 Apart.none
          have B474 := B364.all k469 id
          have B475 := B365.all k469 Apart.none
          have B476 := B366.all k469 Apart.none
          have K477 := K348.trans k469 (fun _ _ x => x.elim)
          refine wl_v (.tuple #[.int .i64 ((sizeF (FD.mk ((newF (w) (h) 0).W) ((newF (w) (h) 0).H) (fillL (ph0 * pw0) s (ph0 * pw0)) (fillL (ph1 * pw1) s (ph1 * pw1)) ((newF (w) (h) 0).p2)) (((2 : Nat) : Int))).1), .int .i64 ((sizeF (FD.mk ((newF (w) (h) 0).W) ((newF (w) (h) 0).H) (fillL (ph0 * pw0) s (ph0 * pw0)) (fillL (ph1 * pw1) s (ph1 * pw1)) ((newF (w) (h) 0).p2)) (((2 : Nat) : Int))).2)]) rfl rfl (y_mov rfl rfl ⟨rfl, rfl⟩) ?_
          refine wl_v (.int .i64 ((sizeF (FD.mk ((newF (w) (h) 0).W) ((newF (w) (h) 0).H) (fillL (ph0 * pw0) s (ph0 * pw0)) (fillL (ph1 * pw1) s (ph1 * pw1)) ((newF (w) (h) 0).p2)) (((2 : Nat) : Int))).1)) rfl rfl (y_ext rfl rfl rfl ⟨rfl, rfl⟩) ?_
          refine wl_v (.int .i64 ((sizeF (FD.mk ((newF (w) (h) 0).W) ((newF (w) (h) 0).H) (fillL (ph0 * pw0) s (ph0 * pw0)) (fillL (ph1 * pw1) s (ph1 * pw1)) ((newF (w) (h) 0).p2)) (((2 : Nat) : Int))).2)) rfl rfl (y_ext rfl rfl rfl ⟨rfl, rfl⟩) ?_
          refine wl_v (.int .i64 ((sizeF (FD.mk ((newF (w) (h) 0).W) ((newF (w) (h) 0).H) (fillL (ph0 * pw0) s (ph0 * pw0)) (fillL (ph1 * pw1) s (ph1 * pw1)) ((newF (w) (h) 0).p2)) (((2 : Nat) : Int))).1)) rfl rfl (y_asg rfl rfl ⟨rfl, rfl⟩) ?_
          refine wl_v (.int .i64 ((sizeF (FD.mk ((newF (w) (h) 0).W) ((newF (w) (h) 0).H) (fillL (ph0 * pw0) s (ph0 * pw0)) (fillL (ph1 * pw1) s (ph1 * pw1)) ((newF (w) (h) 0).p2)) (((2 : Nat) : Int))).2)) rfl rfl (y_asg rfl rfl ⟨rfl, rfl⟩) ?_
          refine wl_nil fun F478 hF479 => ?_
          have s480 : F478 6 = .pointer (some ⟨p1, 0, none⟩) := (hF479 6).trans s462
          have s481 : F478 8 = .pointer (some ⟨p58, 0, none⟩) := (hF479 8).trans s463
          have s482 : F478 9 = v107 := (hF479 9).trans s464
          have s483 : F478 55 = undef := (hF479 55).trans s465
          have s484 : F478 30 = .int .i64 (((2 : Nat) : Int)) := (hF479 30).trans s466
          have s485 : F478 10 = .int .i64 (((2 : Nat) : Int)) := (hF479 10).trans s467
          have s486 : F478 11 = .int .i64 ((sizeF (FD.mk ((newF (w) (h) 0).W) ((newF (w) (h) 0).H) (fillL (ph0 * pw0) s (ph0 * pw0)) (fillL (ph1 * pw1) s (ph1 * pw1)) ((newF (w) (h) 0).p2)) (((2 : Nat) : Int))).1) := (hF479 11).trans rfl
          have s487 : F478 12 = .int .i64 ((sizeF (FD.mk ((newF (w) (h) 0).W) ((newF (w) (h) 0).H) (fillL (ph0 * pw0) s (ph0 * pw0)) (fillL (ph1 * pw1) s (ph1 * pw1)) ((newF (w) (h) 0).p2)) (((2 : Nat) : Int))).2) := (hF479 12).trans rfl
          clear hF479
          refine then_normal ?_
          refine wq_seq ?_
          obtain ⟨pw2, hpw2⟩ : ∃ q, q = pn2 a (a / 2) 2 := ⟨_, rfl⟩
          obtain ⟨ph2, hph2⟩ : ∃ q, q = pn2 b (b / 2) 2 := ⟨_, rfl⟩
          have hA2 : (newF w h 0).p2 = List.replicate (ph2 * pw2) 0 := by rw [hpw2, hph2]; first | exact (new_planes 0 hsw hsh ha hb).1 | exact (new_planes 0 hsw hsh ha hb).2.1 | exact (new_planes 0 hsw hsh ha hb).2.2
          have hE2 : (newF w h s).p2 = List.replicate (ph2 * pw2) s := by rw [hpw2, hph2]; first | exact (new_planes s hsw hsh ha hb).1 | exact (new_planes s hsw hsh ha hb).2.1 | exact (new_planes s hsw hsh ha hb).2.2
          have hB2 : pw2 ≤ a ∧ pw2 ≤ 64 ∧ ph2 ≤ 64 := by have e1 := pn2_le a (a / 2) 2; have e2 := pn2_le b (b / 2) 2; omega
          have s488 : F478 11 = .int .i64 (((pw2 : Nat) : Int)) := s486.trans (congrArg (Value.int .i64) (by rw [hpw2]; (refine size_fst hsw hsh ?_ ?_ ?_ ?_ ?_ 2 (by decide) ha hb <;> first | exact (new_side 0 hsw hsh).1 | exact (new_side 0 hsw hsh).2 | exact hl0 | exact hl1 | rfl)))
          have s489 : F478 12 = .int .i64 (((ph2 : Nat) : Int)) := s487.trans (congrArg (Value.int .i64) (by rw [hph2]; (refine size_snd hsw hsh ?_ ?_ ?_ ?_ ?_ 2 (by decide) ha hb <;> first | exact (new_side 0 hsw hsh).1 | exact (new_side 0 hsw hsh).2 | exact hl0 | exact hl1 | rfl)))
          refine wq_region ?_
          refine wl_v (.int .i64 (((ph2 : Nat) : Int))) rfl rfl (y_mov rfl s489 ⟨rfl, rfl⟩) ?_
          refine wl_v (.int .i64 (0)) rfl rfl (y_mov rfl rfl ⟨rfl, rfl⟩) ?_
          refine wl_nil fun F490 hF491 => ?_
          have s492 : F490 6 = .pointer (some ⟨p1, 0, none⟩) := (hF491 6).trans s480
          have s493 : F490 8 = .pointer (some ⟨p58, 0, none⟩) := (hF491 8).trans s481
          have s494 : F490 9 = v107 := (hF491 9).trans s482
          have s495 : F490 55 = undef := (hF491 55).trans s483
          have s496 : F490 30 = .int .i64 (((2 : Nat) : Int)) := (hF491 30).trans s484
          have s497 : F490 10 = .int .i64 (((2 : Nat) : Int)) := (hF491 10).trans s485
          have s498 : F490 11 = .int .i64 (((pw2 : Nat) : Int)) := (hF491 11).trans s488
          have s499 : F490 39 = .int .i64 (((ph2 : Nat) : Int)) := (hF491 39).trans rfl
          have s500 : F490 40 = .int .i64 (0) := (hF491 40).trans rfl
          clear hF491
          refine then_normal ?_
          refine wq_block ?_
          refine wq_loop (fun nn FF ww => ∃ (y : Nat), ∃ (T501 : Nat → Prop), (y ≤ ph2) ∧ nn = ph2 - y ∧ FF 6 = .pointer (some ⟨p1, 0, none⟩) ∧ FF 8 = .pointer (some ⟨p58, 0, none⟩) ∧ FF 9 = v107 ∧ FF 10 = .int .i64 (((2 : Nat) : Int)) ∧ FF 11 = .int .i64 (((pw2 : Nat) : Int)) ∧ FF 30 = .int .i64 (((2 : Nat) : Int)) ∧ FF 39 = .int .i64 (((ph2 : Nat) : Int)) ∧ FF 55 = undef ∧ FF 40 = .int .i64 (((y : Nat) : Int)) ∧ Kept (fun _ => False) w0 ww ∧ Stc ww p1 25 [.int .i64 (0), .int .i64 (0), .slice none 0 0, .slice none 0 0, .slice none 0 0] ∧ Owb ww (T189) v33 (fillL (ph0 * pw0) s (ph0 * pw0)) ∧ Owb ww (T345) v34 (fillL (ph1 * pw1) s (ph1 * pw1)) ∧ Owb ww (T501) v35 (fillL (ph2 * pw2) s (y * pw2)) ∧ Stc ww p58 25 [.int .i64 ((newF (w) (h) 0).W), .int .i64 ((newF (w) (h) 0).H), v33, v34, v35] ∧ Owb ww (T94) v89 ([s]) ∧ Byt ww (T110) v107 (List.replicate (a) (s)) ∧ Grew w0 (noB) T501 ∧ Apart (T501) (onB p1) ∧ Apart (T501) (T189) ∧ Apart (T501) (T345) ∧ Apart (T501) (onB p58) ∧ Apart (T501) (T94) ∧ Apart (T501) (T110)) (ph2 - (0)) ⟨0, T40, by omega, rfl, s492, s493, s494, s497, s498, s496, s499, s495, s500, K477, B470, B471, B472, Owb.of_eq (fill_start hA2) B473, B474, B475, B476, gr56, ap57, (ap214).symm, (ap370).symm, (ap67).symm, (ap99).symm, (ap124).symm⟩ ?_
          rintro n505 F502 w503 ⟨y, T501, i506, hn505, s507, s508, s509, s510, s511, s512, s513, s514, s515, K504, B516, B517, B518, B519, B520, B521, B522, gr523, ap524, ap525, ap526, ap527, ap528, ap529⟩
          refine wq_seq ?_
          refine wq_region ?_
          refine wl_v (.bool (decide ((((y : Nat) : Int)) < (((ph2 : Nat) : Int))))) rfl rfl (y_lss rfl s515 s513 rfl ⟨rfl, rfl⟩) ?_
          refine wl_nil fun F530 hF531 => ?_
          have s532 : F530 6 = .pointer (some ⟨p1, 0, none⟩) := (hF531 6).trans s507
          have s533 : F530 8 = .pointer (some ⟨p58, 0, none⟩) := (hF531 8).trans s508
          have s534 : F530 9 = v107 := (hF531 9).trans s509
          have s535 : F530 10 = .int .i64 (((2 : Nat) : Int)) := (hF531 10).trans s510
          have s536 : F530 11 = .int .i64 (((pw2 : Nat) : Int)) := (hF531 11).trans s511
          have s537 : F530 30 = .int .i64 (((2 : Nat) : Int)) := (hF531 30).trans s512
          have s538 : F530 39 = .int .i64 (((ph2 : Nat) : Int)) := (hF531 39).trans s513
          have s539 : F530 55 = undef := (hF531 55).trans s514
          have s540 : F530 40 = .int .i64 (((y : Nat) : Int)) := (hF531 40).trans s515
          have s541 : F530 41 = .bool (decide ((((y : Nat) : Int)) < (((ph2 : Nat) : Int)))) := (hF531 41).trans rfl
          clear hF531
          refine then_normal ?_
          refine wq_seq ?_
          refine wq_cond s541 (fun c542 => ?_) (fun c542 => ?_)
          · replace c542 := of_decide_eq_true c542
            refine wq_skip ?_
            refine then_normal ?_
            refine wq_seq ?_
            refine wq_block ?_
            refine wq_seq ?_
            refine wq_region ?_
            refine wl_v (.int .i64 (((y : Nat) : Int))) rfl rfl (y_mov rfl s540 ⟨rfl, rfl⟩) ?_
            refine wl_v (.int .i64 (((y : Nat) : Int))) rfl rfl (y_asg rfl rfl ⟨rfl, rfl⟩) ?_
            refine wl_nil fun F543 hF544 => ?_
            have s545 : F543 6 = .pointer (some ⟨p1, 0, none⟩) := (hF544 6).trans s532
            have s546 : F543 8 = .pointer (some ⟨p58, 0, none⟩) := (hF544 8).trans s533
            have s547 : F543 9 = v107 := (hF544 9).trans s534
            have s548 : F543 10 = .int .i64 (((2 : Nat) : Int)) := (hF544 10).trans s535
            have s549 : F543 11 = .int .i64 (((pw2 : Nat) : Int)) := (hF544 11).trans s536
            have s550 : F543 30 = .int .i64 (((2 : Nat) : Int)) := (hF544 30).trans s537
            have s551 : F543 39 = .int .i64 (((ph2 : Nat) : Int)) := (hF544 39).trans s538
            have s552 : F543 55 = undef := (hF544 55).trans s539
            have s553 : F543 40 = .int .i64 (((y : Nat) : Int)) := (hF544 40).trans s540
            have s554 : F543 13 = .int .i64 (((y : Nat) : Int)) := (hF544 13).trans rfl
            clear hF544
            refine then_normal ?_
            have hz := row_fact (y := y) (pw := pw2) (ph := ph2) (by omega) hB2.2.1 hB2.2.2
            have hfl : (fillL (ph2 * pw2) s (y * pw2)).length = ph2 * pw2 := fill_length (by omega)
            refine wq_region ?_
            refine wl_v (.int .i64 (((2 : Nat) : Int))) rfl rfl (y_mov rfl s548 ⟨rfl, rfl⟩) ?_
            refine wl_v (.pointer (some ⟨p58, 2, none⟩)) rfl rfl (y_fieldR (n := 3) rfl s546 Try.underlying25 rfl (by kernel_rfl) (by decide) rfl ⟨rfl, rfl⟩) ?_
            refine wl_v (.pointer (some ⟨p58, 4, none⟩)) rfl rfl (y_atR (2) (s := 1) rfl rfl rfl (by omega) Try.underlying23 (by omega) (by kernel_rfl) (by omega) ⟨rfl, rfl⟩) ?_
            refine wl_v (v35) rfl rfl (y_ld_stc rfl rfl Try.underlying22 B520 rfl rfl ⟨rfl, rfl⟩) ?_
            refine wl_v (.int .i64 (((pw2 : Nat) : Int))) rfl rfl (y_mov rfl s549 ⟨rfl, rfl⟩) ?_
            refine wl_v (.int .i64 (((y : Nat) : Int))) rfl rfl (y_mov rfl s554 ⟨rfl, rfl⟩) ?_
            refine wl_call (R := fun v_ w_ => v_ = subV (v35) (((((y : Nat) : Int)) * (((pw2 : Nat) : Int))).toNat) (((((y : Nat) : Int)) * (((pw2 : Nat) : Int)) + (((pw2 : Nat) : Int))).toNat) (((((y : Nat) : Int)) * (((pw2 : Nat) : Int)) + (((pw2 : Nat) : Int))).toNat) ∧ Kept (fun _ => False) w503 w_) rfl rfl (y_cs rfl rfl rfl (fun _ _ => by kernel_rfl) (ev_func _) (vsC rfl (vsC rfl (vsC rfl vsN))) (ps_row (v35) (fillL (ph2 * pw2) s (y * pw2)) (((pw2 : Nat) : Int)) (((y : Nat) : Int)) (T501) _ (by omega) (by omega) (by rw [hfl]; exact hz.2.2.2) (by omega) (B519).byt ) (fun e_ w_ h_ => ⟨_, h_.1, rfl, h_.2⟩)) ?_
            rintro _ w555 ⟨rfl, k556⟩
            have B557 := B516.all k556 id
            have B558 := B517.all k556 Apart.none
            have B559 := B518.all k556 Apart.none
            have B560 := B519.all k556 Apart.none
            have B561 := B520.all k556 id
            have B562 := B521.all k556 Apart.none
            have B563 := B522.all k556 Apart.none
            have K564 := K504.trans k556 (fun _ _ x => x.elim)
            refine wl_v (v107) rfl rfl (y_mov rfl s547 ⟨rfl, rfl⟩) ?_
            refine wl_copyM rfl rfl rfl rfl rfl (part_sub (B560).byt (by omega)) rfl B560 B563 (by rw [hfl]; omega) fun w566 B568 k567 => ?_
            have B571 := B557.all k567 (fun x => (((ap524).symm) p1 rfl x))
            have B572 := B558.all k567 (fun i h x => (((ap525).symm) i h x))
            have B573 := B559.all k567 (fun i h x => (((ap526).symm) i h x))
            have B574 := B561.all k567 (fun x => (((ap527).symm) p58 rfl x))
            have B575 := B562.all k567 (fun i h x => (((ap528).symm) i h x))
            have B576 := B563.all k567 (fun i h x => (((ap529).symm) i h x))
            have K577 := K564.trans k567 (Grew.ok (S := fun _ => False) gr523 noB_le)
            refine wl_nil fun F578 hF579 => ?_
            have s580 : F578 6 = .pointer (some ⟨p1, 0, none⟩) := (hF579 6).trans s545
            have s581 : F578 8 = .pointer (some ⟨p58, 0, none⟩) := (hF579 8).trans s546
            have s582 : F578 9 = v107 := (hF579 9).trans s547
            have s583 : F578 10 = .int .i64 (((2 : Nat) : Int)) := (hF579 10).trans s548
            have s584 : F578 11 = .int .i64 (((pw2 : Nat) : Int)) := (hF579 11).trans s549
            have s585 : F578 30 = .int .i64 (((2 : Nat) : Int)) := (hF579 30).trans s550
            have s586 : F578 39 = .int .i64 (((ph2 : Nat) : Int)) := (hF579 39).trans s551
            have s587 : F578 55 = undef := (hF579 55).trans s552
            have s588 : F578 40 = .int .i64 (((y : Nat) : Int)) := (hF579 40).trans s553
            clear hF579
            refine in_normal ?_
            refine then_normal ?_
            refine wq_region ?_
            refine wl_v (.int .i64 (((y + 1 : Nat) : Int))) rfl rfl (y_add rfl s588 rfl (i64_n (by omega) (by omega)) ⟨rfl, rfl⟩) ?_
            refine wl_v (.int .i64 (((y + 1 : Nat) : Int))) rfl rfl (y_mov rfl rfl ⟨rfl, rfl⟩) ?_
            refine wl_nil fun F589 hF590 => ?_
            have s591 : F589 6 = .pointer (some ⟨p1, 0, none⟩) := (hF590 6).trans s580
            have s592 : F589 8 = .pointer (some ⟨p58, 0, none⟩) := (hF590 8).trans s581
            have s593 : F589 9 = v107 := (hF590 9).trans s582
            have s594 : F589 10 = .int .i64 (((2 : Nat) : Int)) := (hF590 10).trans s583
            have s595 : F589 11 = .int .i64 (((pw2 : Nat) : Int)) := (hF590 11).trans s584
            have s596 : F589 30 = .int .i64 (((2 : Nat) : Int)) := (hF590 30).trans s585
            have s597 : F589 39 = .int .i64 (((ph2 : Nat) : Int)) := (hF590 39).trans s586
            have s598 : F589 55 = undef := (hF590 55).trans s587
            have s599 : F589 40 = .int .i64 (((y + 1 : Nat) : Int)) := (hF590 40).trans rfl
            clear hF590
            exact then_normal ⟨(ph2 - (y + 1)), by omega, y + 1, T501, by omega, rfl, s591, s592, s593, s594, s595, s596, s597, s598, s599, K577, B571, B572, B573, Owb.of_eq (fill_next hB2.1) B568, B574, B575, B576, gr523, ap524, ap525, ap526, ap527, ap528, ap529⟩
          · replace c542 := of_decide_eq_false c542
            refine wq_exit ?_
            refine then_exit ?_
            refine then_exit ?_
            have l600 : ph2 = y := by omega
            subst l600
            have hl2 : (fillL (ph2 * pw2) s (ph2 * pw2)).length = (newF w h 0).p2.length := by rw [fill_length (Nat.le_refl _), hA2, List.length_replicate]
            refine in_here ?_
            refine in_normal ?_
            refine then_normal ?_
            refine wq_region ?_
            refine wl_v (.int .i64 (((3 : Nat) : Int))) rfl rfl (y_add rfl s537 rfl (i64_n (by omega) (by omega)) ⟨rfl, rfl⟩) ?_
            refine wl_v (.int .i64 (((3 : Nat) : Int))) rfl rfl (y_mov rfl rfl ⟨rfl, rfl⟩) ?_
            refine wl_nil fun F601 hF602 => ?_
            have s603 : F601 6 = .pointer (some ⟨p1, 0, none⟩) := (hF602 6).trans s532
            have s604 : F601 8 = .pointer (some ⟨p58, 0, none⟩) := (hF602 8).trans s533
            have s605 : F601 9 = v107 := (hF602 9).trans s534
            have s606 : F601 55 = undef := (hF602 55).trans s539
            have s607 : F601 30 = .int .i64 (((3 : Nat) : Int)) := (hF602 30).trans rfl
            clear hF602
            refine then_normal ?_
            refine wqr_step ?_
            refine wq_seq ?_
            refine wq_region ?_
            refine wl_v (.bool false) rfl rfl (y_lss rfl s607 rfl rfl ⟨rfl, rfl⟩) ?_
            refine wl_nil fun F608 hF609 => ?_
            have s610 : F608 6 = .pointer (some ⟨p1, 0, none⟩) := (hF609 6).trans s603
            have s611 : F608 8 = .pointer (some ⟨p58, 0, none⟩) := (hF609 8).trans s604
            have s612 : F608 9 = v107 := (hF609 9).trans s605
            have s613 : F608 55 = undef := (hF609 55).trans s606
            have s614 : F608 30 = .int .i64 (((3 : Nat) : Int)) := (hF609 30).trans s607
            have s615 : F608 31 = .bool false := (hF609 31).trans rfl
            clear hF609
            refine then_normal ?_
            refine wq_seq ?_
            refine wq_cond (t := false) s615 (fun e => by cases e) (fun _ => ?_)
            refine wq_exit ?_
            refine then_exit ?_
            refine then_exit ?_
            refine in_here ?_
            refine then_normal ?_
            refine wq_seq ?_
            refine wq_region ?_
            refine wl_v (.agg #[.int .i64 ((newF (w) (h) 0).W), .int .i64 ((newF (w) (h) 0).H), v33, v34, v35]) rfl rfl (y_load_stc stcT_frame rfl s611 B520 ⟨rfl, rfl⟩) ?_
            refine wl_store_stc (us := [.int .i64 ((newF (w) (h) 0).W), .int .i64 ((newF (w) (h) 0).H), v33, v34, v35]) stcT_frame rfl rfl rfl s610 rfl B516 rfl (oneI rfl (oneI rfl (oneI (B517).one (oneI (B518).one (oneI (B519).one oneN))))) fun w616 B617 k618 => ?_
            have B619 := B517.all k618 (fun i h x => ((ap212) i h x))
            have B620 := B518.all k618 (fun i h x => ((ap368) i h x))
            have B621 := B519.all k618 (fun i h x => ((ap524) i h x))
            have B622 := B520.all k618 (fun x => ((ap64) p58 rfl x))
            have B623 := B521.all k618 (fun i h x => ((ap96) i h x))
            have B624 := B522.all k618 (fun i h x => ((ap121) i h x))
            have K625 := K504.trans k618 (Grew.ok (S := fun _ => False) gr6 noB_le)
            refine wl_v (.int .i64 (0)) rfl rfl (y_asg rfl rfl ⟨rfl, rfl⟩) ?_
            refine wl_nil fun F626 hF627 => ?_
            have s628 : F626 6 = .pointer (some ⟨p1, 0, none⟩) := (hF627 6).trans s610
            have s629 : F626 55 = undef := (hF627 55).trans s613
            have s630 : F626 7 = .int .i64 (0) := (hF627 7).trans rfl
            clear hF627
            refine then_normal ?_
            refine wq_ret ?_
            exact end_2 s629 rfl (res_stc (vs := [.int .i64 ((newF (w) (h) 0).W), .int .i64 ((newF (w) (h) 0).H), v33, v34, v35]) stcT_frame rfl s628 B617) (res_tmp (v := .int .i64 (0)) rfl s630) ⟨v33, T189, v34, T345, v35, T501, (by first | rw [(new_side s hsw hsh).1, (new_side s hsw hsh).2, (new_side 0 hsw hsh).1, (new_side 0 hsw hsh).2, newE_yes hsw hsh] | (rw [hN, newE_no hno]; rfl)), K625, ⟨(by first | exact Owb.of_eq (fill_done hE0) B619 | (rw [hN]; exact B619)), gr211⟩, ⟨(by first | exact Owb.of_eq (fill_done hE1) B620 | (rw [hN]; exact B620)), gr367⟩, ⟨(by first | exact Owb.of_eq (fill_done hE2) B621 | (rw [hN]; exact B621)), gr523⟩, (ap369).symm, (ap525).symm, (ap526).symm⟩
    · skip
      refine wq_region ?_
      refine wl_v (.int .i64 (w)) rfl rfl (y_mov rfl s10 ⟨rfl, rfl⟩) ?_
      refine wl_call (R := fun v_ w_ => v_ = .bool true ∧ Kept (fun _ => False) w2 w_) rfl rfl (y_cs rfl rfl rfl (fun _ _ => by kernel_rfl) (ev_func _) (vsC rfl vsN) (ps_side (w)  _   ) (fun e_ w_ h_ => ⟨_, h_.1, (congrArg Value.bool d15), h_.2⟩)) ?_
      rintro _ w631 ⟨rfl, k632⟩
      have B633 := B4.all k632 id
      have K634 := K7.trans k632 (fun _ _ x => x.elim)
      refine wl_v (.bool false) rfl rfl (y_not rfl rfl rfl ⟨rfl, rfl⟩) ?_
      refine wl_v (.bool false) rfl rfl (y_mov rfl rfl ⟨rfl, rfl⟩) ?_
      refine wl_vw (.int .i64 (h)) 3 false 17 rfl rfl rfl rfl rfl (y_mov rfl s11 ⟨rfl, rfl⟩) ?_
      refine wl_callw (R := fun v_ w_ => v_ = .bool false ∧ Kept (fun _ => False) w631 w_) 3 false 17 rfl rfl rfl rfl rfl (y_cs rfl rfl rfl (fun _ _ => by kernel_rfl) (ev_func _) (vsC rfl vsN) (ps_side (h)  _   ) (fun e_ w_ h_ => ⟨_, h_.1, (congrArg Value.bool d16), h_.2⟩)) ?_
      rintro _ w635 ⟨rfl, k636⟩
      have B637 := B633.all k636 id
      have K638 := K634.trans k636 (fun _ _ x => x.elim)
      refine wl_vw (.bool true) 3 false 17 rfl rfl rfl rfl rfl (y_not rfl rfl rfl ⟨rfl, rfl⟩) ?_
      refine wl_v (.bool true) rfl rfl (y_pickF rfl rfl rfl ⟨rfl, rfl⟩) ?_
      refine wl_nil fun F639 hF640 => ?_
      have s641 : F639 0 = .int .i64 (w) := (hF640 0).trans s10
      have s642 : F639 1 = .int .i64 (h) := (hF640 1).trans s11
      have s643 : F639 2 = .int .u8 (((s : Nat) : Int)) := (hF640 2).trans s12
      have s644 : F639 55 = undef := (hF640 55).trans s13
      have s645 : F639 6 = .pointer (some ⟨p1, 0, none⟩) := (hF640 6).trans s14
      have s646 : F639 21 = .bool true := (hF640 21).trans rfl
      clear hF640
      refine then_normal ?_
      refine wq_cond (t := true) s646 (fun _ => ?_) (fun e => by cases e)
      refine wq_seq ?_
      have hno : ¬ (sideB w = true ∧ sideB h = true) := by rintro ⟨h1, h2⟩; simp_all
      have hN := newF_no s hno
      refine wq_region ?_
      refine wl_v (.agg #[.int .i64 (0), .int .i64 (0), .slice none 0 0, .slice none 0 0, .slice none 0 0]) rfl rfl (y_buildL (l' := []) (cells := #[.int .i64 (0), .int .i64 (0), .slice none 0 0, .slice none 0 0, .slice none 0 0]) rfl bpN (by kernel_rfl) rfl ⟨rfl, rfl⟩) ?_
      refine wl_store_stc (us := [.int .i64 (0), .int .i64 (0), .slice none 0 0, .slice none 0 0, .slice none 0 0]) stcT_frame rfl rfl rfl s645 rfl B637 rfl (oneI rfl (oneI rfl (oneI rfl (oneI rfl (oneI rfl oneN))))) fun w647 B648 k649 => ?_
      have K650 := K638.trans k649 (Grew.ok (S := fun _ => False) gr6 noB_le)
      refine wl_v (.int .i64 (70)) rfl rfl (y_asg rfl rfl ⟨rfl, rfl⟩) ?_
      refine wl_nil fun F651 hF652 => ?_
      have s653 : F651 55 = undef := (hF652 55).trans s644
      have s654 : F651 6 = .pointer (some ⟨p1, 0, none⟩) := (hF652 6).trans s645
      have s655 : F651 7 = .int .i64 (70) := (hF652 7).trans rfl
      clear hF652
      refine then_normal ?_
      refine wq_ret ?_
      refine then_ret ?_
      exact end_2 s653 rfl (res_stc (vs := [.int .i64 (0), .int .i64 (0), .slice none 0 0, .slice none 0 0, .slice none 0 0]) stcT_frame rfl s654 B648) (res_tmp (v := .int .i64 (70)) rfl s655) ⟨(.slice none 0 0), noB, (.slice none 0 0), noB, (.slice none 0 0), noB, (by first | rw [(new_side s hsw hsh).1, (new_side s hsw hsh).2, (new_side 0 hsw hsh).1, (new_side 0 hsw hsh).2, newE_yes hsw hsh] | (rw [hN, newE_no hno]; rfl)), K650, ⟨(by first | exact Owb.of_eq (fill_done hE0) (Owb.nil _) | (rw [hN]; exact (Owb.nil _))), (Grew.refl _ _)⟩, ⟨(by first | exact Owb.of_eq (fill_done hE1) (Owb.nil _) | (rw [hN]; exact (Owb.nil _))), (Grew.refl _ _)⟩, ⟨(by first | exact Owb.of_eq (fill_done hE2) (Owb.nil _) | (rw [hN]; exact (Owb.nil _))), (Grew.refl _ _)⟩, Apart.none, Apart.none, Apart.none⟩
  · skip
    refine wq_region ?_
    refine wl_v (.int .i64 (w)) rfl rfl (y_mov rfl s10 ⟨rfl, rfl⟩) ?_
    refine wl_call (R := fun v_ w_ => v_ = .bool false ∧ Kept (fun _ => False) w2 w_) rfl rfl (y_cs rfl rfl rfl (fun _ _ => by kernel_rfl) (ev_func _) (vsC rfl vsN) (ps_side (w)  _   ) (fun e_ w_ h_ => ⟨_, h_.1, (congrArg Value.bool d15), h_.2⟩)) ?_
    rintro _ w656 ⟨rfl, k657⟩
    have B658 := B4.all k657 id
    have K659 := K7.trans k657 (fun _ _ x => x.elim)
    refine wl_v (.bool true) rfl rfl (y_not rfl rfl rfl ⟨rfl, rfl⟩) ?_
    refine wl_v (.bool true) rfl rfl (y_mov rfl rfl ⟨rfl, rfl⟩) ?_
    refine wl_unless 3 false 17 rfl rfl rfl (Or.inl rfl) rfl ?_
    refine wl_unless 3 false 17 rfl rfl rfl (Or.inl rfl) rfl ?_
    refine wl_unless 3 false 17 rfl rfl rfl (Or.inl rfl) rfl ?_
    refine wl_v (.bool true) rfl rfl (y_pickT rfl rfl rfl ⟨rfl, rfl⟩) ?_
    refine wl_nil fun F660 hF661 => ?_
    have s662 : F660 0 = .int .i64 (w) := (hF661 0).trans s10
    have s663 : F660 1 = .int .i64 (h) := (hF661 1).trans s11
    have s664 : F660 2 = .int .u8 (((s : Nat) : Int)) := (hF661 2).trans s12
    have s665 : F660 55 = undef := (hF661 55).trans s13
    have s666 : F660 6 = .pointer (some ⟨p1, 0, none⟩) := (hF661 6).trans s14
    have s667 : F660 21 = .bool true := (hF661 21).trans rfl
    clear hF661
    refine then_normal ?_
    refine wq_cond (t := true) s667 (fun _ => ?_) (fun e => by cases e)
    refine wq_seq ?_
    have hno : ¬ (sideB w = true ∧ sideB h = true) := by rintro ⟨h1, h2⟩; simp_all
    have hN := newF_no s hno
    refine wq_region ?_
    refine wl_v (.agg #[.int .i64 (0), .int .i64 (0), .slice none 0 0, .slice none 0 0, .slice none 0 0]) rfl rfl (y_buildL (l' := []) (cells := #[.int .i64 (0), .int .i64 (0), .slice none 0 0, .slice none 0 0, .slice none 0 0]) rfl bpN (by kernel_rfl) rfl ⟨rfl, rfl⟩) ?_
    refine wl_store_stc (us := [.int .i64 (0), .int .i64 (0), .slice none 0 0, .slice none 0 0, .slice none 0 0]) stcT_frame rfl rfl rfl s666 rfl B658 rfl (oneI rfl (oneI rfl (oneI rfl (oneI rfl (oneI rfl oneN))))) fun w668 B669 k670 => ?_
    have K671 := K659.trans k670 (Grew.ok (S := fun _ => False) gr6 noB_le)
    refine wl_v (.int .i64 (70)) rfl rfl (y_asg rfl rfl ⟨rfl, rfl⟩) ?_
    refine wl_nil fun F672 hF673 => ?_
    have s674 : F672 55 = undef := (hF673 55).trans s665
    have s675 : F672 6 = .pointer (some ⟨p1, 0, none⟩) := (hF673 6).trans s666
    have s676 : F672 7 = .int .i64 (70) := (hF673 7).trans rfl
    clear hF673
    refine then_normal ?_
    refine wq_ret ?_
    refine then_ret ?_
    exact end_2 s674 rfl (res_stc (vs := [.int .i64 (0), .int .i64 (0), .slice none 0 0, .slice none 0 0, .slice none 0 0]) stcT_frame rfl s675 B669) (res_tmp (v := .int .i64 (70)) rfl s676) ⟨(.slice none 0 0), noB, (.slice none 0 0), noB, (.slice none 0 0), noB, (by first | rw [(new_side s hsw hsh).1, (new_side s hsw hsh).2, (new_side 0 hsw hsh).1, (new_side 0 hsw hsh).2, newE_yes hsw hsh] | (rw [hN, newE_no hno]; rfl)), K671, ⟨(by first | exact Owb.of_eq (fill_done hE0) (Owb.nil _) | (rw [hN]; exact (Owb.nil _))), (Grew.refl _ _)⟩, ⟨(by first | exact Owb.of_eq (fill_done hE1) (Owb.nil _) | (rw [hN]; exact (Owb.nil _))), (Grew.refl _ _)⟩, ⟨(by first | exact Owb.of_eq (fill_done hE2) (Owb.nil _) | (rw [hN]; exact (Owb.nil _))), (Grew.refl _ _)⟩, Apart.none, Apart.none, Apart.none⟩
end Go.Proofs.Ytceoidglhakanaa
namespace Go.Proofs.Ytceoidglhakanaa
open Go.RowKit
theorem none_place (p x y : Int) : ¬ placeF (FD.mk 0 0 [] [] []) p x y := fun h => absurd h.1 (by decide)

end Go.Proofs.Ytceoidglhakanaa
namespace Go.Proofs.Ytceoidglhakanaa
open Go.RowKit

def g9 : FD := putFr (newF 8 8 20) 0 (-3) 0 (blL [0, 0, 0, 10, 0, 0, 0, 20, 0, 0, 0, 20, 0, 0, 0, 20])
set_option maxRecDepth 100000 in
theorem awake9 : smpF g9 0 0 0 = 10 ∧ smpF g9 0 1 0 = 15 ∧ smpF g9 0 2 0 = 20 ∧ smpF g9 0 1 1 = 18 ∧ mvB g9 0 0 0 1 0 0 = 15 ∧ mvE g9 0 0 0 1 0 = 0 ∧ mvE g9 0 0 0 32 0 = 90 ∧ bothB (blL [1]) (blL [4]) 0 = 3 := by
  refine ⟨?_, ?_, ?_, ?_, ?_, ?_, ?_, ?_⟩ <;> decide +kernel
set_option maxRecDepth 100000 in
theorem awake9s : (srF g9 0 0 0 (mvB g9 0 0 0 1 0) 0 0).X = 1 ∧ (srF g9 0 0 0 (mvB g9 0 0 0 1 0) 0 0).Y = 0 ∧ (srF g9 0 0 0 (mvB g9 0 0 0 1 0) 0 0).n = 0 := by
  refine ⟨?_, ?_, ?_⟩ <;> decide +kernel

set_option maxHeartbeats 4000000 in
set_option maxRecDepth 100000 in
theorem mawake (w0 : World) :
    Calls Try.prog 9 #[] w0 fun e w' => e = .returned (.bool true) ∧ Kept (fun _ => False) w0 w' := by
  refine calls_wq (args := []) 87 Try.func9 rfl rfl (Nat.le_of_ble_eq_true rfl) ?_
  have K0 := Kept.refl (fun _ => False) w0
  have hf := Lib.hid awake9
  have hg := Lib.hid awake9s
  refine wq_seq ?_
  refine wq_region ?_
  refine wl_v (.bool false) rfl rfl (y_asg rfl rfl ⟨rfl, rfl⟩) ?_
  refine wl_nil fun F1 hF2 => ?_
  have s3 : F1 87 = undef := (hF2 87).trans rfl
  clear hF2
  refine then_normal ?_
  refine wq_seq ?_
  refine wq_region ?_
  refine wl_call (R := fun v_ w_ => ∃ (v4 : Value) (T9 : Nat → Prop) (v5 : Value) (T10 : Nat → Prop) (v6 : Value) (T11 : Nat → Prop), .tuple #[.agg #[.int .i64 ((newF (8) (8) (20)).W), .int .i64 ((newF (8) (8) (20)).H), v4, v5, v6], .int .i64 (newE (8) (8))] = v_ ∧ Kept (fun _ => False) w0 w_ ∧ (Owb w_ T9 v4 ((newF (8) (8) (20)).p0) ∧ Grew w0 noB T9) ∧ (Owb w_ T10 v5 ((newF (8) (8) (20)).p1) ∧ Grew w0 noB T10) ∧ (Owb w_ T11 v6 ((newF (8) (8) (20)).p2) ∧ Grew w0 noB T11) ∧ Apart T9 T10 ∧ Apart T9 T11 ∧ Apart T10 T11) rfl rfl (y_cs rfl rfl rfl (fun _ _ => by kernel_rfl) (ev_func _) (vsC rfl (vsC rfl (vsC rfl vsN))) (pl_new (8) (8) (20)  _ (by omega)  ) (fun e_ w_ h_ => by obtain ⟨v4_, T9_, v5_, T10_, v6_, T11_, he_, hr_⟩ := h_; exact ⟨_, he_, v4_, T9_, v5_, T10_, v6_, T11_, rfl, hr_⟩)) ?_
  rintro _ w7 ⟨v4, T9, v5, T10, v6, T11, rfl, k8, ⟨B12, g15⟩, ⟨B13, g16⟩, ⟨B14, g17⟩, ap18, ap19, ap20⟩
  have K21 := K0.trans k8 (fun _ _ x => x.elim)
  have gr22 : Grew w0 noB (T9) := Grew.new K0 g15
  have gr23 : Grew w0 noB (T10) := Grew.new K0 g16
  have gr24 : Grew w0 noB (T11) := Grew.new K0 g17
  refine wl_v (.tuple #[.agg #[.int .i64 ((newF (8) (8) (20)).W), .int .i64 ((newF (8) (8) (20)).H), v4, v5, v6], .int .i64 (newE (8) (8))]) rfl rfl (y_mov rfl rfl ⟨rfl, rfl⟩) ?_
  refine wl_v (.agg #[.int .i64 ((newF (8) (8) (20)).W), .int .i64 ((newF (8) (8) (20)).H), v4, v5, v6]) rfl rfl (y_ext rfl rfl rfl ⟨rfl, rfl⟩) ?_
  refine wl_v (.int .i64 (newE (8) (8))) rfl rfl (y_ext rfl rfl rfl ⟨rfl, rfl⟩) ?_
  refine wl_alloc_stc (n := 5) (vs := [.int .i64 (0), .int .i64 (0), .slice none 0 0, .slice none 0 0, .slice none 0 0]) rfl rfl rfl (by kernel_rfl) fun p25 w26 B28 g29 k27 => ?_
  have gr30 : Grew w0 noB (onB p25) := Grew.new K21 g29
  have ap31 : Apart (onB p25) (T9) := Apart.new g29 (B12).live
  have ap32 : Apart (onB p25) (T10) := Apart.new g29 (B13).live
  have ap33 : Apart (onB p25) (T11) := Apart.new g29 (B14).live
  have B34 := B12.all k27 Apart.none
  have B35 := B13.all k27 Apart.none
  have B36 := B14.all k27 Apart.none
  have K37 := K21.trans k27 (fun _ _ x => x.elim)
  refine wl_store_stc (us := [.int .i64 ((newF (8) (8) (20)).W), .int .i64 ((newF (8) (8) (20)).H), v4, v5, v6]) stcT_frame rfl rfl rfl rfl rfl B28 rfl (oneI rfl (oneI rfl (oneI (B34).one (oneI (B35).one (oneI (B36).one oneN))))) fun w38 B39 k40 => ?_
  have B41 := B34.all k40 (fun i h x => (((ap31).symm) i h x))
  have B42 := B35.all k40 (fun i h x => (((ap32).symm) i h x))
  have B43 := B36.all k40 (fun i h x => (((ap33).symm) i h x))
  have K44 := K37.trans k40 (Grew.ok (S := fun _ => False) gr30 noB_le)
  refine wl_v (.int .i64 (newE (8) (8))) rfl rfl (y_asg rfl rfl ⟨rfl, rfl⟩) ?_
  refine wl_nil fun F45 hF46 => ?_
  have s47 : F45 87 = undef := (hF46 87).trans s3
  have s48 : F45 1 = .pointer (some ⟨p25, 0, none⟩) := (hF46 1).trans rfl
  clear hF46
  refine then_normal ?_
  refine wq_seq ?_
  refine wq_region ?_
  refine wl_v (.agg #[.int .i64 ((newF (8) (8) (20)).W), .int .i64 ((newF (8) (8) (20)).H), v4, v5, v6]) rfl rfl (y_load_stc stcT_frame rfl s48 B39 ⟨rfl, rfl⟩) ?_
  refine wl_v (blkV (blL [0, 0, 0, 10, 0, 0, 0, 20, 0, 0, 0, 20, 0, 0, 0, 20])) rfl rfl (y_buildR (cells := (arrL 16 (blL [0, 0, 0, 10, 0, 0, 0, 20, 0, 0, 0, 20, 0, 0, 0, 20])).toArray) rfl (by kernel_rfl) rfl ⟨rfl, rfl⟩) ?_
  refine wl_call (R := fun v_ w_ => ∃ (v49 : Value) (T54 : Nat → Prop) (v50 : Value) (T55 : Nat → Prop) (v51 : Value) (T56 : Nat → Prop), .agg #[.int .i64 ((putFr (newF (8) (8) (20)) (0) (-3) (0) (blL [0, 0, 0, 10, 0, 0, 0, 20, 0, 0, 0, 20, 0, 0, 0, 20])).W), .int .i64 ((putFr (newF (8) (8) (20)) (0) (-3) (0) (blL [0, 0, 0, 10, 0, 0, 0, 20, 0, 0, 0, 20, 0, 0, 0, 20])).H), v49, v50, v51] = v_ ∧ Kept (fun _ => False) w38 w_ ∧ (Owb w_ T54 v49 ((putFr (newF (8) (8) (20)) (0) (-3) (0) (blL [0, 0, 0, 10, 0, 0, 0, 20, 0, 0, 0, 20, 0, 0, 0, 20])).p0) ∧ Grew w38 noB T54) ∧ (Owb w_ T55 v50 ((putFr (newF (8) (8) (20)) (0) (-3) (0) (blL [0, 0, 0, 10, 0, 0, 0, 20, 0, 0, 0, 20, 0, 0, 0, 20])).p1) ∧ Grew w38 noB T55) ∧ (Owb w_ T56 v51 ((putFr (newF (8) (8) (20)) (0) (-3) (0) (blL [0, 0, 0, 10, 0, 0, 0, 20, 0, 0, 0, 20, 0, 0, 0, 20])).p2) ∧ Grew w38 noB T56) ∧ Apart T54 T55 ∧ Apart T54 T56 ∧ Apart T55 T56) rfl rfl (y_cs rfl rfl rfl (fun _ _ => by kernel_rfl) (ev_func _) (vsC rfl (vsC rfl (vsC rfl (vsC rfl (vsC rfl vsN))))) (pl_put (0) (-3) (0) (blL [0, 0, 0, 10, 0, 0, 0, 20, 0, 0, 0, 20, 0, 0, 0, 20]) (newF (8) (8) (20)) (v4) (v5) (v6) (T9) (T10) (T11) _  (B41).byt (B42).byt (B43).byt ) (fun e_ w_ h_ => by obtain ⟨v49_, T54_, v50_, T55_, v51_, T56_, he_, hr_⟩ := h_; exact ⟨_, he_, v49_, T54_, v50_, T55_, v51_, T56_, rfl, hr_⟩)) ?_
  rintro _ w52 ⟨v49, T54, v50, T55, v51, T56, rfl, k53, ⟨B57, g60⟩, ⟨B58, g61⟩, ⟨B59, g62⟩, ap63, ap64, ap65⟩
  have B66 := B41.all k53 Apart.none
  have B67 := B42.all k53 Apart.none
  have B68 := B43.all k53 Apart.none
  have B69 := B39.all k53 id
  have K70 := K44.trans k53 (fun _ _ x => x.elim)
  have gr71 : Grew w0 noB (T54) := Grew.new K44 g60
  have ap72 : Apart (T54) (T9) := Apart.new g60 (B41).live
  have ap73 : Apart (T54) (T10) := Apart.new g60 (B42).live
  have ap74 : Apart (T54) (T11) := Apart.new g60 (B43).live
  have ap75 : Apart (T54) (onB p25) := Apart.new g60 (onB_live (B39).lt)
  have gr76 : Grew w0 noB (T55) := Grew.new K44 g61
  have ap77 : Apart (T55) (T9) := Apart.new g61 (B41).live
  have ap78 : Apart (T55) (T10) := Apart.new g61 (B42).live
  have ap79 : Apart (T55) (T11) := Apart.new g61 (B43).live
  have ap80 : Apart (T55) (onB p25) := Apart.new g61 (onB_live (B39).lt)
  have gr81 : Grew w0 noB (T56) := Grew.new K44 g62
  have ap82 : Apart (T56) (T9) := Apart.new g62 (B41).live
  have ap83 : Apart (T56) (T10) := Apart.new g62 (B42).live
  have ap84 : Apart (T56) (T11) := Apart.new g62 (B43).live
  have ap85 : Apart (T56) (onB p25) := Apart.new g62 (onB_live (B39).lt)
  refine wl_alloc_stc (n := 5) (vs := [.int .i64 (0), .int .i64 (0), .slice none 0 0, .slice none 0 0, .slice none 0 0]) rfl rfl rfl (by kernel_rfl) fun p86 w87 B89 g90 k88 => ?_
  have gr91 : Grew w0 noB (onB p86) := Grew.new K70 g90
  have ap92 : Apart (onB p86) (T9) := Apart.new g90 (B66).live
  have ap93 : Apart (onB p86) (T10) := Apart.new g90 (B67).live
  have ap94 : Apart (onB p86) (T11) := Apart.new g90 (B68).live
  have ap95 : Apart (onB p86) (onB p25) := Apart.new g90 (onB_live (B69).lt)
  have ap96 : Apart (onB p86) (T54) := Apart.new g90 (B57).live
  have ap97 : Apart (onB p86) (T55) := Apart.new g90 (B58).live
  have ap98 : Apart (onB p86) (T56) := Apart.new g90 (B59).live
  have B99 := B66.all k88 Apart.none
  have B100 := B67.all k88 Apart.none
  have B101 := B68.all k88 Apart.none
  have B102 := B69.all k88 id
  have B103 := B57.all k88 Apart.none
  have B104 := B58.all k88 Apart.none
  have B105 := B59.all k88 Apart.none
  have K106 := K70.trans k88 (fun _ _ x => x.elim)
  refine wl_store_stc (us := [.int .i64 ((putFr (newF (8) (8) (20)) (0) (-3) (0) (blL [0, 0, 0, 10, 0, 0, 0, 20, 0, 0, 0, 20, 0, 0, 0, 20])).W), .int .i64 ((putFr (newF (8) (8) (20)) (0) (-3) (0) (blL [0, 0, 0, 10, 0, 0, 0, 20, 0, 0, 0, 20, 0, 0, 0, 20])).H), v49, v50, v51]) stcT_frame rfl rfl rfl rfl rfl B89 rfl (oneI rfl (oneI rfl (oneI (B103).one (oneI (B104).one (oneI (B105).one oneN))))) fun w107 B108 k109 => ?_
  have B110 := B99.all k109 (fun i h x => (((ap92).symm) i h x))
  have B111 := B100.all k109 (fun i h x => (((ap93).symm) i h x))
  have B112 := B101.all k109 (fun i h x => (((ap94).symm) i h x))
  have B113 := B102.all k109 (fun x => (((ap95).symm) p25 rfl x))
  have B114 := B103.all k109 (fun i h x => (((ap96).symm) i h x))
  have B115 := B104.all k109 (fun i h x => (((ap97).symm) i h x))
  have B116 := B105.all k109 (fun i h x => (((ap98).symm) i h x))
  have K117 := K106.trans k109 (Grew.ok (S := fun _ => False) gr91 noB_le)
  refine wl_nil fun F118 hF119 => ?_
  have s120 : F118 87 = undef := (hF119 87).trans s47
  have s121 : F118 3 = .pointer (some ⟨p86, 0, none⟩) := (hF119 3).trans rfl
  clear hF119
  refine then_normal ?_
  refine wq_seq ?_
  refine wq_region ?_
  refine wl_v (.agg #[.int .i64 ((putFr (newF (8) (8) (20)) (0) (-3) (0) (blL [0, 0, 0, 10, 0, 0, 0, 20, 0, 0, 0, 20, 0, 0, 0, 20])).W), .int .i64 ((putFr (newF (8) (8) (20)) (0) (-3) (0) (blL [0, 0, 0, 10, 0, 0, 0, 20, 0, 0, 0, 20, 0, 0, 0, 20])).H), v49, v50, v51]) rfl rfl (y_load_stc stcT_frame rfl s121 B108 ⟨rfl, rfl⟩) ?_
  refine wl_v (.agg #[.int .i64 (1), .int .i64 (0)]) rfl rfl (y_buildL (l' := [(0, .int .i64 (1))]) (cells := #[.int .i64 (1), .int .i64 (0)]) rfl (bpC rfl bpN) (by kernel_rfl) rfl ⟨rfl, rfl⟩) ?_
  refine wl_call (R := fun v_ w_ => v_ = .tuple #[blkV (mvB (putFr (newF (8) (8) (20)) (0) (-3) (0) (blL [0, 0, 0, 10, 0, 0, 0, 20, 0, 0, 0, 20, 0, 0, 0, 20])) (0) (0) (0) (1) (0)), .int .i64 (mvE (putFr (newF (8) (8) (20)) (0) (-3) (0) (blL [0, 0, 0, 10, 0, 0, 0, 20, 0, 0, 0, 20, 0, 0, 0, 20])) (0) (0) (0) (1) (0))] ∧ Kept (fun _ => False) w107 w_) rfl rfl (y_cs rfl rfl rfl (fun _ _ => by kernel_rfl) (ev_func _) (vsC rfl (vsC rfl (vsC rfl (vsC rfl (vsC rfl vsN))))) (mo_predict (0) (0) (0) (1) (0) (putFr (newF (8) (8) (20)) (0) (-3) (0) (blL [0, 0, 0, 10, 0, 0, 0, 20, 0, 0, 0, 20, 0, 0, 0, 20])) (v49) (v50) (v51) (T54) (T55) (T56) _  (B114).byt (B115).byt (B116).byt ) (fun e_ w_ h_ => ⟨_, h_.1, rfl, h_.2⟩)) ?_
  rintro _ w122 ⟨rfl, k123⟩
  have B124 := B110.all k123 Apart.none
  have B125 := B111.all k123 Apart.none
  have B126 := B112.all k123 Apart.none
  have B127 := B113.all k123 id
  have B128 := B114.all k123 Apart.none
  have B129 := B115.all k123 Apart.none
  have B130 := B116.all k123 Apart.none
  have B131 := B108.all k123 id
  have K132 := K117.trans k123 (fun _ _ x => x.elim)
  refine wl_v (.tuple #[blkV (mvB (putFr (newF (8) (8) (20)) (0) (-3) (0) (blL [0, 0, 0, 10, 0, 0, 0, 20, 0, 0, 0, 20, 0, 0, 0, 20])) (0) (0) (0) (1) (0)), .int .i64 (mvE (putFr (newF (8) (8) (20)) (0) (-3) (0) (blL [0, 0, 0, 10, 0, 0, 0, 20, 0, 0, 0, 20, 0, 0, 0, 20])) (0) (0) (0) (1) (0))]) rfl rfl (y_mov rfl rfl ⟨rfl, rfl⟩) ?_
  refine wl_v (blkV (mvB (putFr (newF (8) (8) (20)) (0) (-3) (0) (blL [0, 0, 0, 10, 0, 0, 0, 20, 0, 0, 0, 20, 0, 0, 0, 20])) (0) (0) (0) (1) (0))) rfl rfl (y_ext rfl rfl rfl ⟨rfl, rfl⟩) ?_
  refine wl_v (.int .i64 (mvE (putFr (newF (8) (8) (20)) (0) (-3) (0) (blL [0, 0, 0, 10, 0, 0, 0, 20, 0, 0, 0, 20, 0, 0, 0, 20])) (0) (0) (0) (1) (0))) rfl rfl (y_ext rfl rfl rfl ⟨rfl, rfl⟩) ?_
  refine wl_alloc_blk rfl rfl rfl blkT_block.2.2 fun p133 w134 e137 B135 k136 => ?_
  have g138 := onB_new (Nat.le_of_eq e137.symm)
  have gr139 : Grew w0 noB (onB p133) := Grew.new K132 g138
  have ap140 : Apart (onB p133) (T9) := Apart.new g138 (B124).live
  have ap141 : Apart (onB p133) (T10) := Apart.new g138 (B125).live
  have ap142 : Apart (onB p133) (T11) := Apart.new g138 (B126).live
  have ap143 : Apart (onB p133) (onB p25) := Apart.new g138 (onB_live (B127).lt)
  have ap144 : Apart (onB p133) (T54) := Apart.new g138 (B128).live
  have ap145 : Apart (onB p133) (T55) := Apart.new g138 (B129).live
  have ap146 : Apart (onB p133) (T56) := Apart.new g138 (B130).live
  have ap147 : Apart (onB p133) (onB p86) := Apart.new g138 (onB_live (B131).lt)
  clear e137 g138
  have B148 := B124.all k136 Apart.none
  have B149 := B125.all k136 Apart.none
  have B150 := B126.all k136 Apart.none
  have B151 := B127.all k136 id
  have B152 := B128.all k136 Apart.none
  have B153 := B129.all k136 Apart.none
  have B154 := B130.all k136 Apart.none
  have B155 := B131.all k136 id
  have K156 := K132.trans k136 (fun _ _ x => x.elim)
  refine wl_store_blk blkT_block rfl rfl rfl rfl rfl B135 fun w157 B158 k159 => ?_
  have B160 := B148.all k159 (fun i h x => (((ap140).symm) i h x))
  have B161 := B149.all k159 (fun i h x => (((ap141).symm) i h x))
  have B162 := B150.all k159 (fun i h x => (((ap142).symm) i h x))
  have B163 := B151.all k159 (fun x => (((ap143).symm) p25 rfl x))
  have B164 := B152.all k159 (fun i h x => (((ap144).symm) i h x))
  have B165 := B153.all k159 (fun i h x => (((ap145).symm) i h x))
  have B166 := B154.all k159 (fun i h x => (((ap146).symm) i h x))
  have B167 := B155.all k159 (fun x => (((ap147).symm) p86 rfl x))
  have K168 := K156.trans k159 (Grew.ok (S := fun _ => False) gr139 noB_le)
  refine wl_v (.int .i64 (mvE (putFr (newF (8) (8) (20)) (0) (-3) (0) (blL [0, 0, 0, 10, 0, 0, 0, 20, 0, 0, 0, 20, 0, 0, 0, 20])) (0) (0) (0) (1) (0))) rfl rfl (y_asg rfl rfl ⟨rfl, rfl⟩) ?_
  refine wl_nil fun F169 hF170 => ?_
  have s171 : F169 87 = undef := (hF170 87).trans s120
  have s172 : F169 3 = .pointer (some ⟨p86, 0, none⟩) := (hF170 3).trans s121
  have s173 : F169 4 = .pointer (some ⟨p133, 0, none⟩) := (hF170 4).trans rfl
  have s174 : F169 5 = .int .i64 (mvE (putFr (newF (8) (8) (20)) (0) (-3) (0) (blL [0, 0, 0, 10, 0, 0, 0, 20, 0, 0, 0, 20, 0, 0, 0, 20])) (0) (0) (0) (1) (0)) := (hF170 5).trans rfl
  clear hF170
  refine then_normal ?_
  refine wq_seq ?_
  refine wq_region ?_
  refine wl_v (.agg #[.int .i64 ((putFr (newF (8) (8) (20)) (0) (-3) (0) (blL [0, 0, 0, 10, 0, 0, 0, 20, 0, 0, 0, 20, 0, 0, 0, 20])).W), .int .i64 ((putFr (newF (8) (8) (20)) (0) (-3) (0) (blL [0, 0, 0, 10, 0, 0, 0, 20, 0, 0, 0, 20, 0, 0, 0, 20])).H), v49, v50, v51]) rfl rfl (y_load_stc stcT_frame rfl s172 B167 ⟨rfl, rfl⟩) ?_
  refine wl_v (.agg #[.int .i64 (32), .int .i64 (0)]) rfl rfl (y_buildL (l' := [(0, .int .i64 (32))]) (cells := #[.int .i64 (32), .int .i64 (0)]) rfl (bpC rfl bpN) (by kernel_rfl) rfl ⟨rfl, rfl⟩) ?_
  refine wl_call (R := fun v_ w_ => v_ = .tuple #[blkV (mvB (putFr (newF (8) (8) (20)) (0) (-3) (0) (blL [0, 0, 0, 10, 0, 0, 0, 20, 0, 0, 0, 20, 0, 0, 0, 20])) (0) (0) (0) (32) (0)), .int .i64 (mvE (putFr (newF (8) (8) (20)) (0) (-3) (0) (blL [0, 0, 0, 10, 0, 0, 0, 20, 0, 0, 0, 20, 0, 0, 0, 20])) (0) (0) (0) (32) (0))] ∧ Kept (fun _ => False) w157 w_) rfl rfl (y_cs rfl rfl rfl (fun _ _ => by kernel_rfl) (ev_func _) (vsC rfl (vsC rfl (vsC rfl (vsC rfl (vsC rfl vsN))))) (mo_predict (0) (0) (0) (32) (0) (putFr (newF (8) (8) (20)) (0) (-3) (0) (blL [0, 0, 0, 10, 0, 0, 0, 20, 0, 0, 0, 20, 0, 0, 0, 20])) (v49) (v50) (v51) (T54) (T55) (T56) _  (B164).byt (B165).byt (B166).byt ) (fun e_ w_ h_ => ⟨_, h_.1, rfl, h_.2⟩)) ?_
  rintro _ w175 ⟨rfl, k176⟩
  have B177 := B160.all k176 Apart.none
  have B178 := B161.all k176 Apart.none
  have B179 := B162.all k176 Apart.none
  have B180 := B163.all k176 id
  have B181 := B164.all k176 Apart.none
  have B182 := B165.all k176 Apart.none
  have B183 := B166.all k176 Apart.none
  have B184 := B167.all k176 id
  have B185 := B158.all k176 id
  have K186 := K168.trans k176 (fun _ _ x => x.elim)
  refine wl_v (.tuple #[blkV (mvB (putFr (newF (8) (8) (20)) (0) (-3) (0) (blL [0, 0, 0, 10, 0, 0, 0, 20, 0, 0, 0, 20, 0, 0, 0, 20])) (0) (0) (0) (32) (0)), .int .i64 (mvE (putFr (newF (8) (8) (20)) (0) (-3) (0) (blL [0, 0, 0, 10, 0, 0, 0, 20, 0, 0, 0, 20, 0, 0, 0, 20])) (0) (0) (0) (32) (0))]) rfl rfl (y_mov rfl rfl ⟨rfl, rfl⟩) ?_
  refine wl_v (blkV (mvB (putFr (newF (8) (8) (20)) (0) (-3) (0) (blL [0, 0, 0, 10, 0, 0, 0, 20, 0, 0, 0, 20, 0, 0, 0, 20])) (0) (0) (0) (32) (0))) rfl rfl (y_ext rfl rfl rfl ⟨rfl, rfl⟩) ?_
  refine wl_v (.int .i64 (mvE (putFr (newF (8) (8) (20)) (0) (-3) (0) (blL [0, 0, 0, 10, 0, 0, 0, 20, 0, 0, 0, 20, 0, 0, 0, 20])) (0) (0) (0) (32) (0))) rfl rfl (y_ext rfl rfl rfl ⟨rfl, rfl⟩) ?_
  refine wl_alloc_blk rfl rfl rfl blkT_block.2.2 fun p187 w188 e191 B189 k190 => ?_
  have g192 := onB_new (Nat.le_of_eq e191.symm)
  have gr193 : Grew w0 noB (onB p187) := Grew.new K186 g192
  have ap194 : Apart (onB p187) (T9) := Apart.new g192 (B177).live
  have ap195 : Apart (onB p187) (T10) := Apart.new g192 (B178).live
  have ap196 : Apart (onB p187) (T11) := Apart.new g192 (B179).live
  have ap197 : Apart (onB p187) (onB p25) := Apart.new g192 (onB_live (B180).lt)
  have ap198 : Apart (onB p187) (T54) := Apart.new g192 (B181).live
  have ap199 : Apart (onB p187) (T55) := Apart.new g192 (B182).live
  have ap200 : Apart (onB p187) (T56) := Apart.new g192 (B183).live
  have ap201 : Apart (onB p187) (onB p86) := Apart.new g192 (onB_live (B184).lt)
  have ap202 : Apart (onB p187) (onB p133) := Apart.new g192 (onB_live (B185).lt)
  clear e191 g192
  have B203 := B177.all k190 Apart.none
  have B204 := B178.all k190 Apart.none
  have B205 := B179.all k190 Apart.none
  have B206 := B180.all k190 id
  have B207 := B181.all k190 Apart.none
  have B208 := B182.all k190 Apart.none
  have B209 := B183.all k190 Apart.none
  have B210 := B184.all k190 id
  have B211 := B185.all k190 id
  have K212 := K186.trans k190 (fun _ _ x => x.elim)
  refine wl_store_blk blkT_block rfl rfl rfl rfl rfl B189 fun w213 B214 k215 => ?_
  have B216 := B203.all k215 (fun i h x => (((ap194).symm) i h x))
  have B217 := B204.all k215 (fun i h x => (((ap195).symm) i h x))
  have B218 := B205.all k215 (fun i h x => (((ap196).symm) i h x))
  have B219 := B206.all k215 (fun x => (((ap197).symm) p25 rfl x))
  have B220 := B207.all k215 (fun i h x => (((ap198).symm) i h x))
  have B221 := B208.all k215 (fun i h x => (((ap199).symm) i h x))
  have B222 := B209.all k215 (fun i h x => (((ap200).symm) i h x))
  have B223 := B210.all k215 (fun x => (((ap201).symm) p86 rfl x))
  have B224 := B211.all k215 (fun x => (((ap202).symm) p133 rfl x))
  have K225 := K212.trans k215 (Grew.ok (S := fun _ => False) gr193 noB_le)
  refine wl_v (.int .i64 (mvE (putFr (newF (8) (8) (20)) (0) (-3) (0) (blL [0, 0, 0, 10, 0, 0, 0, 20, 0, 0, 0, 20, 0, 0, 0, 20])) (0) (0) (0) (32) (0))) rfl rfl (y_asg rfl rfl ⟨rfl, rfl⟩) ?_
  refine wl_nil fun F226 hF227 => ?_
  have s228 : F226 87 = undef := (hF227 87).trans s171
  have s229 : F226 3 = .pointer (some ⟨p86, 0, none⟩) := (hF227 3).trans s172
  have s230 : F226 4 = .pointer (some ⟨p133, 0, none⟩) := (hF227 4).trans s173
  have s231 : F226 5 = .int .i64 (mvE (putFr (newF (8) (8) (20)) (0) (-3) (0) (blL [0, 0, 0, 10, 0, 0, 0, 20, 0, 0, 0, 20, 0, 0, 0, 20])) (0) (0) (0) (1) (0)) := (hF227 5).trans s174
  have s232 : F226 7 = .int .i64 (mvE (putFr (newF (8) (8) (20)) (0) (-3) (0) (blL [0, 0, 0, 10, 0, 0, 0, 20, 0, 0, 0, 20, 0, 0, 0, 20])) (0) (0) (0) (32) (0)) := (hF227 7).trans rfl
  clear hF227
  refine then_normal ?_
  refine wq_seq ?_
  refine wq_region ?_
  refine wl_v (.agg #[.int .i64 ((putFr (newF (8) (8) (20)) (0) (-3) (0) (blL [0, 0, 0, 10, 0, 0, 0, 20, 0, 0, 0, 20, 0, 0, 0, 20])).W), .int .i64 ((putFr (newF (8) (8) (20)) (0) (-3) (0) (blL [0, 0, 0, 10, 0, 0, 0, 20, 0, 0, 0, 20, 0, 0, 0, 20])).H), v49, v50, v51]) rfl rfl (y_load_stc stcT_frame rfl s229 B223 ⟨rfl, rfl⟩) ?_
  refine wl_v (blkV (mvB (putFr (newF (8) (8) (20)) (0) (-3) (0) (blL [0, 0, 0, 10, 0, 0, 0, 20, 0, 0, 0, 20, 0, 0, 0, 20])) (0) (0) (0) (1) (0))) rfl rfl (y_load_blk blkT_block rfl s230 B224 ⟨rfl, rfl⟩) ?_
  refine wl_v (.agg #[.int .i64 (0), .int .i64 (0)]) rfl rfl (y_buildL (l' := []) (cells := #[.int .i64 (0), .int .i64 (0)]) rfl bpN (by kernel_rfl) rfl ⟨rfl, rfl⟩) ?_
  refine wl_call (R := fun v_ w_ => v_ = .tuple #[.agg #[.int .i64 ((srF (putFr (newF (8) (8) (20)) (0) (-3) (0) (blL [0, 0, 0, 10, 0, 0, 0, 20, 0, 0, 0, 20, 0, 0, 0, 20])) (0) (0) (0) (mvB (putFr (newF (8) (8) (20)) (0) (-3) (0) (blL [0, 0, 0, 10, 0, 0, 0, 20, 0, 0, 0, 20, 0, 0, 0, 20])) (0) (0) (0) (1) (0)) (0) (0)).X), .int .i64 ((srF (putFr (newF (8) (8) (20)) (0) (-3) (0) (blL [0, 0, 0, 10, 0, 0, 0, 20, 0, 0, 0, 20, 0, 0, 0, 20])) (0) (0) (0) (mvB (putFr (newF (8) (8) (20)) (0) (-3) (0) (blL [0, 0, 0, 10, 0, 0, 0, 20, 0, 0, 0, 20, 0, 0, 0, 20])) (0) (0) (0) (1) (0)) (0) (0)).Y)], .int .i64 ((srF (putFr (newF (8) (8) (20)) (0) (-3) (0) (blL [0, 0, 0, 10, 0, 0, 0, 20, 0, 0, 0, 20, 0, 0, 0, 20])) (0) (0) (0) (mvB (putFr (newF (8) (8) (20)) (0) (-3) (0) (blL [0, 0, 0, 10, 0, 0, 0, 20, 0, 0, 0, 20, 0, 0, 0, 20])) (0) (0) (0) (1) (0)) (0) (0)).n)] ∧ Kept (fun _ => False) w213 w_) rfl rfl (y_cs rfl rfl rfl (fun _ _ => by kernel_rfl) (ev_func _) (vsC rfl (vsC rfl (vsC rfl (vsC rfl (vsC rfl (vsC rfl vsN)))))) (mo_search (0) (0) (0) (0) (0) (mvB (putFr (newF (8) (8) (20)) (0) (-3) (0) (blL [0, 0, 0, 10, 0, 0, 0, 20, 0, 0, 0, 20, 0, 0, 0, 20])) (0) (0) (0) (1) (0)) (putFr (newF (8) (8) (20)) (0) (-3) (0) (blL [0, 0, 0, 10, 0, 0, 0, 20, 0, 0, 0, 20, 0, 0, 0, 20])) (v49) (v50) (v51) (T54) (T55) (T56) _  (B220).byt (B221).byt (B222).byt ) (fun e_ w_ h_ => ⟨_, h_.1, rfl, h_.2⟩)) ?_
  rintro _ w233 ⟨rfl, k234⟩
  have B235 := B216.all k234 Apart.none
  have B236 := B217.all k234 Apart.none
  have B237 := B218.all k234 Apart.none
  have B238 := B219.all k234 id
  have B239 := B220.all k234 Apart.none
  have B240 := B221.all k234 Apart.none
  have B241 := B222.all k234 Apart.none
  have B242 := B223.all k234 id
  have B243 := B224.all k234 id
  have B244 := B214.all k234 id
  have K245 := K225.trans k234 (fun _ _ x => x.elim)
  refine wl_v (.tuple #[.agg #[.int .i64 ((srF (putFr (newF (8) (8) (20)) (0) (-3) (0) (blL [0, 0, 0, 10, 0, 0, 0, 20, 0, 0, 0, 20, 0, 0, 0, 20])) (0) (0) (0) (mvB (putFr (newF (8) (8) (20)) (0) (-3) (0) (blL [0, 0, 0, 10, 0, 0, 0, 20, 0, 0, 0, 20, 0, 0, 0, 20])) (0) (0) (0) (1) (0)) (0) (0)).X), .int .i64 ((srF (putFr (newF (8) (8) (20)) (0) (-3) (0) (blL [0, 0, 0, 10, 0, 0, 0, 20, 0, 0, 0, 20, 0, 0, 0, 20])) (0) (0) (0) (mvB (putFr (newF (8) (8) (20)) (0) (-3) (0) (blL [0, 0, 0, 10, 0, 0, 0, 20, 0, 0, 0, 20, 0, 0, 0, 20])) (0) (0) (0) (1) (0)) (0) (0)).Y)], .int .i64 ((srF (putFr (newF (8) (8) (20)) (0) (-3) (0) (blL [0, 0, 0, 10, 0, 0, 0, 20, 0, 0, 0, 20, 0, 0, 0, 20])) (0) (0) (0) (mvB (putFr (newF (8) (8) (20)) (0) (-3) (0) (blL [0, 0, 0, 10, 0, 0, 0, 20, 0, 0, 0, 20, 0, 0, 0, 20])) (0) (0) (0) (1) (0)) (0) (0)).n)]) rfl rfl (y_mov rfl rfl ⟨rfl, rfl⟩) ?_
  refine wl_v (.agg #[.int .i64 ((srF (putFr (newF (8) (8) (20)) (0) (-3) (0) (blL [0, 0, 0, 10, 0, 0, 0, 20, 0, 0, 0, 20, 0, 0, 0, 20])) (0) (0) (0) (mvB (putFr (newF (8) (8) (20)) (0) (-3) (0) (blL [0, 0, 0, 10, 0, 0, 0, 20, 0, 0, 0, 20, 0, 0, 0, 20])) (0) (0) (0) (1) (0)) (0) (0)).X), .int .i64 ((srF (putFr (newF (8) (8) (20)) (0) (-3) (0) (blL [0, 0, 0, 10, 0, 0, 0, 20, 0, 0, 0, 20, 0, 0, 0, 20])) (0) (0) (0) (mvB (putFr (newF (8) (8) (20)) (0) (-3) (0) (blL [0, 0, 0, 10, 0, 0, 0, 20, 0, 0, 0, 20, 0, 0, 0, 20])) (0) (0) (0) (1) (0)) (0) (0)).Y)]) rfl rfl (y_ext rfl rfl rfl ⟨rfl, rfl⟩) ?_
  refine wl_v (.int .i64 ((srF (putFr (newF (8) (8) (20)) (0) (-3) (0) (blL [0, 0, 0, 10, 0, 0, 0, 20, 0, 0, 0, 20, 0, 0, 0, 20])) (0) (0) (0) (mvB (putFr (newF (8) (8) (20)) (0) (-3) (0) (blL [0, 0, 0, 10, 0, 0, 0, 20, 0, 0, 0, 20, 0, 0, 0, 20])) (0) (0) (0) (1) (0)) (0) (0)).n)) rfl rfl (y_ext rfl rfl rfl ⟨rfl, rfl⟩) ?_
  refine wl_alloc_stc (n := 2) (vs := [.int .i64 (0), .int .i64 (0)]) rfl rfl rfl (by kernel_rfl) fun p246 w247 B249 g250 k248 => ?_
  have gr251 : Grew w0 noB (onB p246) := Grew.new K245 g250
  have ap252 : Apart (onB p246) (T9) := Apart.new g250 (B235).live
  have ap253 : Apart (onB p246) (T10) := Apart.new g250 (B236).live
  have ap254 : Apart (onB p246) (T11) := Apart.new g250 (B237).live
  have ap255 : Apart (onB p246) (onB p25) := Apart.new g250 (onB_live (B238).lt)
  have ap256 : Apart (onB p246) (T54) := Apart.new g250 (B239).live
  have ap257 : Apart (onB p246) (T55) := Apart.new g250 (B240).live
  have ap258 : Apart (onB p246) (T56) := Apart.new g250 (B241).live
  have ap259 : Apart (onB p246) (onB p86) := Apart.new g250 (onB_live (B242).lt)
  have ap260 : Apart (onB p246) (onB p133) := Apart.new g250 (onB_live (B243).lt)
  have ap261 : Apart (onB p246) (onB p187) := Apart.new g250 (onB_live (B244).lt)
  have B262 := B235.all k248 Apart.none
  have B263 := B236.all k248 Apart.none
  have B264 := B237.all k248 Apart.none
  have B265 := B238.all k248 id
  have B266 := B239.all k248 Apart.none
  have B267 := B240.all k248 Apart.none
  have B268 := B241.all k248 Apart.none
  have B269 := B242.all k248 id
  have B270 := B243.all k248 id
  have B271 := B244.all k248 id
  have K272 := K245.trans k248 (fun _ _ x => x.elim)
  refine wl_store_stc (us := [.int .i64 ((srF (putFr (newF (8) (8) (20)) (0) (-3) (0) (blL [0, 0, 0, 10, 0, 0, 0, 20, 0, 0, 0, 20, 0, 0, 0, 20])) (0) (0) (0) (mvB (putFr (newF (8) (8) (20)) (0) (-3) (0) (blL [0, 0, 0, 10, 0, 0, 0, 20, 0, 0, 0, 20, 0, 0, 0, 20])) (0) (0) (0) (1) (0)) (0) (0)).X), .int .i64 ((srF (putFr (newF (8) (8) (20)) (0) (-3) (0) (blL [0, 0, 0, 10, 0, 0, 0, 20, 0, 0, 0, 20, 0, 0, 0, 20])) (0) (0) (0) (mvB (putFr (newF (8) (8) (20)) (0) (-3) (0) (blL [0, 0, 0, 10, 0, 0, 0, 20, 0, 0, 0, 20, 0, 0, 0, 20])) (0) (0) (0) (1) (0)) (0) (0)).Y)]) stcT_vector rfl rfl rfl rfl rfl B249 rfl (oneI rfl (oneI rfl oneN)) fun w273 B274 k275 => ?_
  have B276 := B262.all k275 (fun i h x => (((ap252).symm) i h x))
  have B277 := B263.all k275 (fun i h x => (((ap253).symm) i h x))
  have B278 := B264.all k275 (fun i h x => (((ap254).symm) i h x))
  have B279 := B265.all k275 (fun x => (((ap255).symm) p25 rfl x))
  have B280 := B266.all k275 (fun i h x => (((ap256).symm) i h x))
  have B281 := B267.all k275 (fun i h x => (((ap257).symm) i h x))
  have B282 := B268.all k275 (fun i h x => (((ap258).symm) i h x))
  have B283 := B269.all k275 (fun x => (((ap259).symm) p86 rfl x))
  have B284 := B270.all k275 (fun x => (((ap260).symm) p133 rfl x))
  have B285 := B271.all k275 (fun x => (((ap261).symm) p187 rfl x))
  have K286 := K272.trans k275 (Grew.ok (S := fun _ => False) gr251 noB_le)
  refine wl_v (.int .i64 ((srF (putFr (newF (8) (8) (20)) (0) (-3) (0) (blL [0, 0, 0, 10, 0, 0, 0, 20, 0, 0, 0, 20, 0, 0, 0, 20])) (0) (0) (0) (mvB (putFr (newF (8) (8) (20)) (0) (-3) (0) (blL [0, 0, 0, 10, 0, 0, 0, 20, 0, 0, 0, 20, 0, 0, 0, 20])) (0) (0) (0) (1) (0)) (0) (0)).n)) rfl rfl (y_asg rfl rfl ⟨rfl, rfl⟩) ?_
  refine wl_nil fun F287 hF288 => ?_
  have s289 : F287 87 = undef := (hF288 87).trans s228
  have s290 : F287 3 = .pointer (some ⟨p86, 0, none⟩) := (hF288 3).trans s229
  have s291 : F287 4 = .pointer (some ⟨p133, 0, none⟩) := (hF288 4).trans s230
  have s292 : F287 5 = .int .i64 (mvE (putFr (newF (8) (8) (20)) (0) (-3) (0) (blL [0, 0, 0, 10, 0, 0, 0, 20, 0, 0, 0, 20, 0, 0, 0, 20])) (0) (0) (0) (1) (0)) := (hF288 5).trans s231
  have s293 : F287 7 = .int .i64 (mvE (putFr (newF (8) (8) (20)) (0) (-3) (0) (blL [0, 0, 0, 10, 0, 0, 0, 20, 0, 0, 0, 20, 0, 0, 0, 20])) (0) (0) (0) (32) (0)) := (hF288 7).trans s232
  have s294 : F287 8 = .pointer (some ⟨p246, 0, none⟩) := (hF288 8).trans rfl
  have s295 : F287 9 = .int .i64 ((srF (putFr (newF (8) (8) (20)) (0) (-3) (0) (blL [0, 0, 0, 10, 0, 0, 0, 20, 0, 0, 0, 20, 0, 0, 0, 20])) (0) (0) (0) (mvB (putFr (newF (8) (8) (20)) (0) (-3) (0) (blL [0, 0, 0, 10, 0, 0, 0, 20, 0, 0, 0, 20, 0, 0, 0, 20])) (0) (0) (0) (1) (0)) (0) (0)).n) := (hF288 9).trans rfl
  clear hF288
  refine then_normal ?_
  refine wq_seq ?_
  refine wq_region ?_
  refine wl_v (.agg #[.int .i64 ((putFr (newF (8) (8) (20)) (0) (-3) (0) (blL [0, 0, 0, 10, 0, 0, 0, 20, 0, 0, 0, 20, 0, 0, 0, 20])).W), .int .i64 ((putFr (newF (8) (8) (20)) (0) (-3) (0) (blL [0, 0, 0, 10, 0, 0, 0, 20, 0, 0, 0, 20, 0, 0, 0, 20])).H), v49, v50, v51]) rfl rfl (y_load_stc stcT_frame rfl s290 B283 ⟨rfl, rfl⟩) ?_
  refine wl_call (R := fun v_ w_ => v_ = .int .i64 (smpF (putFr (newF (8) (8) (20)) (0) (-3) (0) (blL [0, 0, 0, 10, 0, 0, 0, 20, 0, 0, 0, 20, 0, 0, 0, 20])) (0) (0) (0)) ∧ Kept (fun _ => False) w273 w_) rfl rfl (y_cs rfl rfl rfl (fun _ _ => by kernel_rfl) (ev_func _) (vsC rfl (vsC rfl (vsC rfl (vsC rfl vsN)))) (mo_sample (0) (0) (0) (putFr (newF (8) (8) (20)) (0) (-3) (0) (blL [0, 0, 0, 10, 0, 0, 0, 20, 0, 0, 0, 20, 0, 0, 0, 20])) (v49) (v50) (v51) (T54) (T55) (T56) _  (B280).byt (B281).byt (B282).byt ) (fun e_ w_ h_ => ⟨_, h_.1, rfl, h_.2⟩)) ?_
  rintro _ w296 ⟨rfl, k297⟩
  have B298 := B276.all k297 Apart.none
  have B299 := B277.all k297 Apart.none
  have B300 := B278.all k297 Apart.none
  have B301 := B279.all k297 id
  have B302 := B280.all k297 Apart.none
  have B303 := B281.all k297 Apart.none
  have B304 := B282.all k297 Apart.none
  have B305 := B283.all k297 id
  have B306 := B284.all k297 id
  have B307 := B285.all k297 id
  have B308 := B274.all k297 id
  have K309 := K286.trans k297 (fun _ _ x => x.elim)
  refine wl_v (.bool true) rfl rfl (y_eqlI rfl rfl rfl (decide_eq_true hf.out.1) ⟨rfl, rfl⟩) ?_
  refine wl_v (.bool true) rfl rfl (y_mov rfl rfl ⟨rfl, rfl⟩) ?_
  refine wl_vw (.agg #[.int .i64 ((putFr (newF (8) (8) (20)) (0) (-3) (0) (blL [0, 0, 0, 10, 0, 0, 0, 20, 0, 0, 0, 20, 0, 0, 0, 20])).W), .int .i64 ((putFr (newF (8) (8) (20)) (0) (-3) (0) (blL [0, 0, 0, 10, 0, 0, 0, 20, 0, 0, 0, 20, 0, 0, 0, 20])).H), v49, v50, v51]) 3 true 39 rfl rfl rfl rfl rfl (y_load_stc stcT_frame rfl s290 B305 ⟨rfl, rfl⟩) ?_
  refine wl_callw (R := fun v_ w_ => v_ = .int .i64 (smpF (putFr (newF (8) (8) (20)) (0) (-3) (0) (blL [0, 0, 0, 10, 0, 0, 0, 20, 0, 0, 0, 20, 0, 0, 0, 20])) (0) (1) (0)) ∧ Kept (fun _ => False) w296 w_) 3 true 39 rfl rfl rfl rfl rfl (y_cs rfl rfl rfl (fun _ _ => by kernel_rfl) (ev_func _) (vsC rfl (vsC rfl (vsC rfl (vsC rfl vsN)))) (mo_sample (0) (1) (0) (putFr (newF (8) (8) (20)) (0) (-3) (0) (blL [0, 0, 0, 10, 0, 0, 0, 20, 0, 0, 0, 20, 0, 0, 0, 20])) (v49) (v50) (v51) (T54) (T55) (T56) _  (B302).byt (B303).byt (B304).byt ) (fun e_ w_ h_ => ⟨_, h_.1, rfl, h_.2⟩)) ?_
  rintro _ w310 ⟨rfl, k311⟩
  have B312 := B298.all k311 Apart.none
  have B313 := B299.all k311 Apart.none
  have B314 := B300.all k311 Apart.none
  have B315 := B301.all k311 id
  have B316 := B302.all k311 Apart.none
  have B317 := B303.all k311 Apart.none
  have B318 := B304.all k311 Apart.none
  have B319 := B305.all k311 id
  have B320 := B306.all k311 id
  have B321 := B307.all k311 id
  have B322 := B308.all k311 id
  have K323 := K309.trans k311 (fun _ _ x => x.elim)
  refine wl_vw (.bool true) 3 true 39 rfl rfl rfl rfl rfl (y_eqlI rfl rfl rfl (decide_eq_true hf.out.2.1) ⟨rfl, rfl⟩) ?_
  refine wl_v (.bool true) rfl rfl (y_pickT rfl rfl rfl ⟨rfl, rfl⟩) ?_
  refine wl_v (.bool true) rfl rfl (y_mov rfl rfl ⟨rfl, rfl⟩) ?_
  refine wl_vw (.agg #[.int .i64 ((putFr (newF (8) (8) (20)) (0) (-3) (0) (blL [0, 0, 0, 10, 0, 0, 0, 20, 0, 0, 0, 20, 0, 0, 0, 20])).W), .int .i64 ((putFr (newF (8) (8) (20)) (0) (-3) (0) (blL [0, 0, 0, 10, 0, 0, 0, 20, 0, 0, 0, 20, 0, 0, 0, 20])).H), v49, v50, v51]) 8 true 44 rfl rfl rfl rfl rfl (y_load_stc stcT_frame rfl s290 B319 ⟨rfl, rfl⟩) ?_
  refine wl_callw (R := fun v_ w_ => v_ = .int .i64 (smpF (putFr (newF (8) (8) (20)) (0) (-3) (0) (blL [0, 0, 0, 10, 0, 0, 0, 20, 0, 0, 0, 20, 0, 0, 0, 20])) (0) (2) (0)) ∧ Kept (fun _ => False) w310 w_) 8 true 44 rfl rfl rfl rfl rfl (y_cs rfl rfl rfl (fun _ _ => by kernel_rfl) (ev_func _) (vsC rfl (vsC rfl (vsC rfl (vsC rfl vsN)))) (mo_sample (0) (2) (0) (putFr (newF (8) (8) (20)) (0) (-3) (0) (blL [0, 0, 0, 10, 0, 0, 0, 20, 0, 0, 0, 20, 0, 0, 0, 20])) (v49) (v50) (v51) (T54) (T55) (T56) _  (B316).byt (B317).byt (B318).byt ) (fun e_ w_ h_ => ⟨_, h_.1, rfl, h_.2⟩)) ?_
  rintro _ w324 ⟨rfl, k325⟩
  have B326 := B312.all k325 Apart.none
  have B327 := B313.all k325 Apart.none
  have B328 := B314.all k325 Apart.none
  have B329 := B315.all k325 id
  have B330 := B316.all k325 Apart.none
  have B331 := B317.all k325 Apart.none
  have B332 := B318.all k325 Apart.none
  have B333 := B319.all k325 id
  have B334 := B320.all k325 id
  have B335 := B321.all k325 id
  have B336 := B322.all k325 id
  have K337 := K323.trans k325 (fun _ _ x => x.elim)
  refine wl_vw (.bool true) 8 true 44 rfl rfl rfl rfl rfl (y_eqlI rfl rfl rfl (decide_eq_true hf.out.2.2.1) ⟨rfl, rfl⟩) ?_
  refine wl_v (.bool true) rfl rfl (y_pickT rfl rfl rfl ⟨rfl, rfl⟩) ?_
  refine wl_v (.bool true) rfl rfl (y_mov rfl rfl ⟨rfl, rfl⟩) ?_
  refine wl_vw (.agg #[.int .i64 ((putFr (newF (8) (8) (20)) (0) (-3) (0) (blL [0, 0, 0, 10, 0, 0, 0, 20, 0, 0, 0, 20, 0, 0, 0, 20])).W), .int .i64 ((putFr (newF (8) (8) (20)) (0) (-3) (0) (blL [0, 0, 0, 10, 0, 0, 0, 20, 0, 0, 0, 20, 0, 0, 0, 20])).H), v49, v50, v51]) 13 true 49 rfl rfl rfl rfl rfl (y_load_stc stcT_frame rfl s290 B333 ⟨rfl, rfl⟩) ?_
  refine wl_callw (R := fun v_ w_ => v_ = .int .i64 (smpF (putFr (newF (8) (8) (20)) (0) (-3) (0) (blL [0, 0, 0, 10, 0, 0, 0, 20, 0, 0, 0, 20, 0, 0, 0, 20])) (0) (1) (1)) ∧ Kept (fun _ => False) w324 w_) 13 true 49 rfl rfl rfl rfl rfl (y_cs rfl rfl rfl (fun _ _ => by kernel_rfl) (ev_func _) (vsC rfl (vsC rfl (vsC rfl (vsC rfl vsN)))) (mo_sample (0) (1) (1) (putFr (newF (8) (8) (20)) (0) (-3) (0) (blL [0, 0, 0, 10, 0, 0, 0, 20, 0, 0, 0, 20, 0, 0, 0, 20])) (v49) (v50) (v51) (T54) (T55) (T56) _  (B330).byt (B331).byt (B332).byt ) (fun e_ w_ h_ => ⟨_, h_.1, rfl, h_.2⟩)) ?_
  rintro _ w338 ⟨rfl, k339⟩
  have B340 := B326.all k339 Apart.none
  have B341 := B327.all k339 Apart.none
  have B342 := B328.all k339 Apart.none
  have B343 := B329.all k339 id
  have B344 := B330.all k339 Apart.none
  have B345 := B331.all k339 Apart.none
  have B346 := B332.all k339 Apart.none
  have B347 := B333.all k339 id
  have B348 := B334.all k339 id
  have B349 := B335.all k339 id
  have B350 := B336.all k339 id
  have K351 := K337.trans k339 (fun _ _ x => x.elim)
  refine wl_vw (.bool true) 13 true 49 rfl rfl rfl rfl rfl (y_eqlI rfl rfl rfl (decide_eq_true hf.out.2.2.2.1) ⟨rfl, rfl⟩) ?_
  refine wl_v (.bool true) rfl rfl (y_pickT rfl rfl rfl ⟨rfl, rfl⟩) ?_
  refine wl_v (.bool true) rfl rfl (y_mov rfl rfl ⟨rfl, rfl⟩) ?_
  refine wl_vw (.pointer (some ⟨p133, 0, none⟩)) 18 true 54 rfl rfl rfl rfl rfl (y_atR (0) (s := 1) rfl s291 rfl (by omega) Try.underlying31 (by omega) (by kernel_rfl) (by omega) ⟨rfl, rfl⟩) ?_
  refine wl_vw (.int .i64 ((mvB (putFr (newF (8) (8) (20)) (0) (-3) (0) (blL [0, 0, 0, 10, 0, 0, 0, 20, 0, 0, 0, 20, 0, 0, 0, 20])) (0) (0) (0) (1) (0)) (0))) 18 true 54 rfl rfl rfl rfl rfl (y_ldR rfl rfl Try.underlying3 ((B348).cell (by omega)) ⟨rfl, rfl⟩) ?_
  refine wl_vw (.bool true) 18 true 54 rfl rfl rfl rfl rfl (y_eqlI rfl rfl rfl (decide_eq_true hf.out.2.2.2.2.1) ⟨rfl, rfl⟩) ?_
  refine wl_v (.bool true) rfl rfl (y_pickT rfl rfl rfl ⟨rfl, rfl⟩) ?_
  refine wl_v (.bool true) rfl rfl (y_mov rfl rfl ⟨rfl, rfl⟩) ?_
  refine wl_vw (.int .i64 (mvE (putFr (newF (8) (8) (20)) (0) (-3) (0) (blL [0, 0, 0, 10, 0, 0, 0, 20, 0, 0, 0, 20, 0, 0, 0, 20])) (0) (0) (0) (1) (0))) 23 true 59 rfl rfl rfl rfl rfl (y_mov rfl s292 ⟨rfl, rfl⟩) ?_
  refine wl_vw (.bool true) 23 true 59 rfl rfl rfl rfl rfl (y_eqlI rfl rfl rfl (decide_eq_true hf.out.2.2.2.2.2.1) ⟨rfl, rfl⟩) ?_
  refine wl_v (.bool true) rfl rfl (y_pickT rfl rfl rfl ⟨rfl, rfl⟩) ?_
  refine wl_v (.bool true) rfl rfl (y_mov rfl rfl ⟨rfl, rfl⟩) ?_
  refine wl_vw (.int .i64 (mvE (putFr (newF (8) (8) (20)) (0) (-3) (0) (blL [0, 0, 0, 10, 0, 0, 0, 20, 0, 0, 0, 20, 0, 0, 0, 20])) (0) (0) (0) (32) (0))) 27 true 63 rfl rfl rfl rfl rfl (y_mov rfl s293 ⟨rfl, rfl⟩) ?_
  refine wl_vw (.bool true) 27 true 63 rfl rfl rfl rfl rfl (y_eqlI rfl rfl rfl (decide_eq_true hf.out.2.2.2.2.2.2.1) ⟨rfl, rfl⟩) ?_
  refine wl_v (.bool true) rfl rfl (y_pickT rfl rfl rfl ⟨rfl, rfl⟩) ?_
  refine wl_v (.bool true) rfl rfl (y_mov rfl rfl ⟨rfl, rfl⟩) ?_
  refine wl_vw (.agg #[.int .i64 ((srF (putFr (newF (8) (8) (20)) (0) (-3) (0) (blL [0, 0, 0, 10, 0, 0, 0, 20, 0, 0, 0, 20, 0, 0, 0, 20])) (0) (0) (0) (mvB (putFr (newF (8) (8) (20)) (0) (-3) (0) (blL [0, 0, 0, 10, 0, 0, 0, 20, 0, 0, 0, 20, 0, 0, 0, 20])) (0) (0) (0) (1) (0)) (0) (0)).X), .int .i64 ((srF (putFr (newF (8) (8) (20)) (0) (-3) (0) (blL [0, 0, 0, 10, 0, 0, 0, 20, 0, 0, 0, 20, 0, 0, 0, 20])) (0) (0) (0) (mvB (putFr (newF (8) (8) (20)) (0) (-3) (0) (blL [0, 0, 0, 10, 0, 0, 0, 20, 0, 0, 0, 20, 0, 0, 0, 20])) (0) (0) (0) (1) (0)) (0) (0)).Y)]) 31 true 67 rfl rfl rfl rfl rfl (y_load_stc stcT_vector rfl s294 B350 ⟨rfl, rfl⟩) ?_
  refine wl_vw (.agg #[.int .i64 (1), .int .i64 (0)]) 31 true 67 rfl rfl rfl rfl rfl (y_buildL (l' := [(0, .int .i64 (1))]) (cells := #[.int .i64 (1), .int .i64 (0)]) rfl (bpC rfl bpN) (by kernel_rfl) rfl ⟨rfl, rfl⟩) ?_
  refine wl_vw (.bool true) 31 true 67 rfl rfl rfl rfl rfl (y_eqlVec rfl rfl rfl ((by have e1 := hg.out.1; have e2 := hg.out.2.1; unfold g9 at e1 e2; rw [e1, e2]; rfl)) ⟨rfl, rfl⟩) ?_
  refine wl_v (.bool true) rfl rfl (y_pickT rfl rfl rfl ⟨rfl, rfl⟩) ?_
  refine wl_v (.bool true) rfl rfl (y_mov rfl rfl ⟨rfl, rfl⟩) ?_
  refine wl_vw (.int .i64 ((srF (putFr (newF (8) (8) (20)) (0) (-3) (0) (blL [0, 0, 0, 10, 0, 0, 0, 20, 0, 0, 0, 20, 0, 0, 0, 20])) (0) (0) (0) (mvB (putFr (newF (8) (8) (20)) (0) (-3) (0) (blL [0, 0, 0, 10, 0, 0, 0, 20, 0, 0, 0, 20, 0, 0, 0, 20])) (0) (0) (0) (1) (0)) (0) (0)).n)) 36 true 72 rfl rfl rfl rfl rfl (y_mov rfl s295 ⟨rfl, rfl⟩) ?_
  refine wl_vw (.bool true) 36 true 72 rfl rfl rfl rfl rfl (y_eqlI rfl rfl rfl (decide_eq_true hg.out.2.2) ⟨rfl, rfl⟩) ?_
  refine wl_v (.bool true) rfl rfl (y_pickT rfl rfl rfl ⟨rfl, rfl⟩) ?_
  refine wl_v (.bool true) rfl rfl (y_mov rfl rfl ⟨rfl, rfl⟩) ?_
  refine wl_vw (blkV (blL [1])) 40 true 76 rfl rfl rfl rfl rfl (y_buildR (cells := (arrL 16 (blL [1])).toArray) rfl (by kernel_rfl) rfl ⟨rfl, rfl⟩) ?_
  refine wl_vw (blkV (blL [4])) 40 true 76 rfl rfl rfl rfl rfl (y_buildR (cells := (arrL 16 (blL [4])).toArray) rfl (by kernel_rfl) rfl ⟨rfl, rfl⟩) ?_
  refine wl_callw (R := fun v_ w_ => v_ = blkV (bothB (blL [1]) (blL [4])) ∧ Kept (fun _ => False) w338 w_) 40 true 76 rfl rfl rfl rfl rfl (y_cs rfl rfl rfl (fun _ _ => by kernel_rfl) (ev_func _) (vsC rfl (vsC rfl vsN)) (mo_both (blL [1]) (blL [4])  _   ) (fun e_ w_ h_ => ⟨_, h_.1, rfl, h_.2⟩)) ?_
  rintro _ w352 ⟨rfl, k353⟩
  have B354 := B340.all k353 Apart.none
  have B355 := B341.all k353 Apart.none
  have B356 := B342.all k353 Apart.none
  have B357 := B343.all k353 id
  have B358 := B344.all k353 Apart.none
  have B359 := B345.all k353 Apart.none
  have B360 := B346.all k353 Apart.none
  have B361 := B347.all k353 id
  have B362 := B348.all k353 id
  have B363 := B349.all k353 id
  have B364 := B350.all k353 id
  have K365 := K351.trans k353 (fun _ _ x => x.elim)
  refine wl_vw (.int .i64 ((bothB (blL [1]) (blL [4])) (0))) 40 true 76 rfl rfl rfl rfl rfl (y_look (0) blkT_block rfl rfl rfl (by omega) rfl ⟨rfl, rfl⟩) ?_
  refine wl_vw (.bool true) 40 true 76 rfl rfl rfl rfl rfl (y_eqlI rfl rfl rfl (decide_eq_true hf.out.2.2.2.2.2.2.2) ⟨rfl, rfl⟩) ?_
  refine wl_v (.bool true) rfl rfl (y_pickT rfl rfl rfl ⟨rfl, rfl⟩) ?_
  refine wl_v (.bool true) rfl rfl (y_mov rfl rfl ⟨rfl, rfl⟩) ?_
  refine wl_v (.bool true) rfl rfl (y_pickT rfl rfl rfl ⟨rfl, rfl⟩) ?_
  refine wl_v (.bool true) rfl rfl (y_mov rfl rfl ⟨rfl, rfl⟩) ?_
  refine wl_v (.bool true) rfl rfl (y_pickT rfl rfl rfl ⟨rfl, rfl⟩) ?_
  refine wl_v (.bool true) rfl rfl (y_asg rfl rfl ⟨rfl, rfl⟩) ?_
  refine wl_nil fun F366 hF367 => ?_
  have s368 : F366 87 = undef := (hF367 87).trans s289
  have s369 : F366 0 = .bool true := (hF367 0).trans rfl
  clear hF367
  refine then_normal ?_
  refine wq_ret ?_
  exact end_tmp (v := .bool true) s368 rfl rfl s369 ⟨rfl, K365⟩

end Go.Proofs.Ytceoidglhakanaa
namespace Go.Proofs.Ytceoidglhakanaa
open Go.RowKit
set_option maxHeartbeats 4000000 in
set_option maxRecDepth 100000 in
theorem mrefuses_walk (w h : Nat) (v : Value) (l : List Nat) (p x y X Y : Int) (T_s : Nat → Prop) (w0 : World) (hw : w < 256) (hh : h < 256) (h_s : Byt w0 T_s v (l)) :
    Calls Try.prog 8 #[.int .u8 (((w : Nat) : Int)), .int .u8 (((h : Nat) : Int)), v, .int .i64 (p), .int .i64 (x), .int .i64 (y), .agg #[.int .i64 (X), .int .i64 (Y)]] w0 fun e w' => e = .returned (.bool true) ∧ Kept (fun _ => False) w0 w' := by
  refine calls_wq (args := [.int .u8 (((w : Nat) : Int)), .int .u8 (((h : Nat) : Int)), v, .int .i64 (p), .int .i64 (x), .int .i64 (y), .agg #[.int .i64 (X), .int .i64 (Y)]]) 152 Try.func8 rfl rfl (Nat.le_of_ble_eq_true rfl) ?_
  have K0 := Kept.refl (fun _ => False) w0
  have g_s := Grew.refl w0 T_s
  refine wq_seq ?_
  refine wq_region ?_
  refine wl_box_stc (vs := [.int .i64 (X), .int .i64 (Y)]) rfl rfl rfl rfl fun p1 w2 B4 g5 k3 => ?_
  have gr6 : Grew w0 noB (onB p1) := Grew.new K0 g5
  have ap7 : Apart (onB p1) (T_s) := Apart.new g5 (h_s).live
  have B8 := h_s.all k3 Apart.none
  have K9 := K0.trans k3 (fun _ _ x => x.elim)
  refine wl_v (.bool false) rfl rfl (y_asg rfl rfl ⟨rfl, rfl⟩) ?_
  refine wl_nil fun F10 hF11 => ?_
  have s12 : F10 0 = .int .u8 (((w : Nat) : Int)) := (hF11 0).trans rfl
  have s13 : F10 1 = .int .u8 (((h : Nat) : Int)) := (hF11 1).trans rfl
  have s14 : F10 2 = v := (hF11 2).trans rfl
  have s15 : F10 3 = .int .i64 (p) := (hF11 3).trans rfl
  have s16 : F10 4 = .int .i64 (x) := (hF11 4).trans rfl
  have s17 : F10 5 = .int .i64 (y) := (hF11 5).trans rfl
  have s18 : F10 152 = undef := (hF11 152).trans rfl
  have s19 : F10 13 = .pointer (some ⟨p1, 0, none⟩) := (hF11 13).trans rfl
  clear hF11
  refine then_normal ?_
  refine wq_seq ?_
  refine wq_region ?_
  refine wl_call (R := fun v_ w_ => v_ = .bool true ∧ Kept (fun _ => False) w2 w_) rfl rfl (y_cs rfl rfl rfl (fun _ _ => by kernel_rfl) (ev_func _) vsN (mawake   _   ) (fun e_ w_ h_ => ⟨_, h_.1, rfl, h_.2⟩)) ?_
  rintro _ w20 ⟨rfl, k21⟩
  have B22 := B8.all k21 Apart.none
  have B23 := B4.all k21 id
  have K24 := K9.trans k21 (fun _ _ x => x.elim)
  refine wl_v (.bool true) rfl rfl (y_asg rfl rfl ⟨rfl, rfl⟩) ?_
  refine wl_nil fun F25 hF26 => ?_
  have s27 : F25 0 = .int .u8 (((w : Nat) : Int)) := (hF26 0).trans s12
  have s28 : F25 1 = .int .u8 (((h : Nat) : Int)) := (hF26 1).trans s13
  have s29 : F25 2 = v := (hF26 2).trans s14
  have s30 : F25 3 = .int .i64 (p) := (hF26 3).trans s15
  have s31 : F25 4 = .int .i64 (x) := (hF26 4).trans s16
  have s32 : F25 5 = .int .i64 (y) := (hF26 5).trans s17
  have s33 : F25 152 = undef := (hF26 152).trans s18
  have s34 : F25 13 = .pointer (some ⟨p1, 0, none⟩) := (hF26 13).trans s19
  have s35 : F25 15 = .bool true := (hF26 15).trans rfl
  clear hF26
  refine then_normal ?_
  refine wq_seq ?_
  refine wq_seq ?_
  refine wq_region ?_
  refine wl_v (v) rfl rfl (y_mov rfl s29 ⟨rfl, rfl⟩) ?_
  refine wl_v (.int .i64 ((((l).length : Nat) : Int))) rfl rfl (y_lenV rfl rfl rfl B22 ⟨rfl, rfl⟩) ?_
  refine wl_v (.bool (decide ((300) < ((((l).length : Nat) : Int))))) rfl rfl (y_gtr rfl rfl rfl rfl ⟨rfl, rfl⟩) ?_
  refine wl_nil fun F36 hF37 => ?_
  have s38 : F36 0 = .int .u8 (((w : Nat) : Int)) := (hF37 0).trans s27
  have s39 : F36 1 = .int .u8 (((h : Nat) : Int)) := (hF37 1).trans s28
  have s40 : F36 2 = v := (hF37 2).trans s29
  have s41 : F36 3 = .int .i64 (p) := (hF37 3).trans s30
  have s42 : F36 4 = .int .i64 (x) := (hF37 4).trans s31
  have s43 : F36 5 = .int .i64 (y) := (hF37 5).trans s32
  have s44 : F36 152 = undef := (hF37 152).trans s33
  have s45 : F36 13 = .pointer (some ⟨p1, 0, none⟩) := (hF37 13).trans s34
  have s46 : F36 15 = .bool true := (hF37 15).trans s35
  have s47 : F36 30 = .bool (decide ((300) < ((((l).length : Nat) : Int)))) := (hF37 30).trans rfl
  clear hF37
  refine then_normal ?_
  refine wq_cond s47 (fun c48 => ?_) (fun c48 => ?_)
  · replace c48 := of_decide_eq_true c48
    refine wq_seq ?_
    refine wq_region ?_
    refine wl_v (.bool true) rfl rfl (y_mov rfl s46 ⟨rfl, rfl⟩) ?_
    refine wl_v (.bool true) rfl rfl (y_asg rfl rfl ⟨rfl, rfl⟩) ?_
    refine wl_nil fun F49 hF50 => ?_
    have s51 : F49 152 = undef := (hF50 152).trans s44
    have s52 : F49 14 = .bool true := (hF50 14).trans rfl
    clear hF50
    refine then_normal ?_
    refine wq_ret ?_
    refine then_ret ?_
    exact end_tmp (v := .bool true) s51 rfl rfl s52 ⟨rfl, K24⟩
  · replace c48 := of_decide_eq_false c48
    refine wq_skip ?_
    refine then_normal ?_
    refine wq_seq ?_
    refine wq_region ?_
    refine wl_v (.int .u8 (((w : Nat) : Int))) rfl rfl (y_mov rfl s38 ⟨rfl, rfl⟩) ?_
    refine wl_v (.int .u8 (((h : Nat) : Int))) rfl rfl (y_mov rfl s39 ⟨rfl, rfl⟩) ?_
    refine wl_v (v) rfl rfl (y_mov rfl s40 ⟨rfl, rfl⟩) ?_
    refine wl_call (R := fun v_ w_ => ∃ (v53 : Value) (T58 : Nat → Prop) (v54 : Value) (T59 : Nat → Prop) (v55 : Value) (T60 : Nat → Prop), .agg #[.int .i64 ((mkF (w) (h) (l)).W), .int .i64 ((mkF (w) (h) (l)).H), v53, v54, v55] = v_ ∧ Kept (fun _ => False) w20 w_ ∧ (Owb w_ T58 v53 ((mkF (w) (h) (l)).p0) ∧ Grew w20 noB T58) ∧ (Owb w_ T59 v54 ((mkF (w) (h) (l)).p1) ∧ Grew w20 noB T59) ∧ (Owb w_ T60 v55 ((mkF (w) (h) (l)).p2) ∧ Grew w20 noB T60) ∧ Apart T58 T59 ∧ Apart T58 T60 ∧ Apart T59 T60) rfl rfl (y_cs rfl rfl rfl (fun _ _ => by kernel_rfl) (ev_func _) (vsC rfl (vsC rfl (vsC rfl vsN))) (flaw_frame (w) (h) (v) (l) (T_s) _ (by omega) (by omega) B22 ) (fun e_ w_ h_ => by obtain ⟨v53_, T58_, v54_, T59_, v55_, T60_, he_, hr_⟩ := h_; exact ⟨_, he_, v53_, T58_, v54_, T59_, v55_, T60_, rfl, hr_⟩)) ?_
    rintro _ w56 ⟨v53, T58, v54, T59, v55, T60, rfl, k57, ⟨B61, g64⟩, ⟨B62, g65⟩, ⟨B63, g66⟩, ap67, ap68, ap69⟩
    have B70 := B22.all k57 Apart.none
    have B71 := B23.all k57 id
    have K72 := K24.trans k57 (fun _ _ x => x.elim)
    have gr73 : Grew w0 noB (T58) := Grew.new K24 g64
    have ap74 : Apart (T58) (T_s) := Apart.new g64 (B22).live
    have ap75 : Apart (T58) (onB p1) := Apart.new g64 (onB_live (B23).lt)
    have gr76 : Grew w0 noB (T59) := Grew.new K24 g65
    have ap77 : Apart (T59) (T_s) := Apart.new g65 (B22).live
    have ap78 : Apart (T59) (onB p1) := Apart.new g65 (onB_live (B23).lt)
    have gr79 : Grew w0 noB (T60) := Grew.new K24 g66
    have ap80 : Apart (T60) (T_s) := Apart.new g66 (B22).live
    have ap81 : Apart (T60) (onB p1) := Apart.new g66 (onB_live (B23).lt)
    refine wl_alloc_stc (n := 5) (vs := [.int .i64 (0), .int .i64 (0), .slice none 0 0, .slice none 0 0, .slice none 0 0]) rfl rfl rfl (by kernel_rfl) fun p82 w83 B85 g86 k84 => ?_
    have gr87 : Grew w0 noB (onB p82) := Grew.new K72 g86
    have ap88 : Apart (onB p82) (T_s) := Apart.new g86 (B70).live
    have ap89 : Apart (onB p82) (onB p1) := Apart.new g86 (onB_live (B71).lt)
    have ap90 : Apart (onB p82) (T58) := Apart.new g86 (B61).live
    have ap91 : Apart (onB p82) (T59) := Apart.new g86 (B62).live
    have ap92 : Apart (onB p82) (T60) := Apart.new g86 (B63).live
    have B93 := B70.all k84 Apart.none
    have B94 := B71.all k84 id
    have B95 := B61.all k84 Apart.none
    have B96 := B62.all k84 Apart.none
    have B97 := B63.all k84 Apart.none
    have K98 := K72.trans k84 (fun _ _ x => x.elim)
    refine wl_store_stc (us := [.int .i64 ((mkF (w) (h) (l)).W), .int .i64 ((mkF (w) (h) (l)).H), v53, v54, v55]) stcT_frame rfl rfl rfl rfl rfl B85 rfl (oneI rfl (oneI rfl (oneI (B95).one (oneI (B96).one (oneI (B97).one oneN))))) fun w99 B100 k101 => ?_
    have B102 := B93.all k101 (fun i h x => (((ap88).symm) i h x))
    have B103 := B94.all k101 (fun x => (((ap89).symm) p1 rfl x))
    have B104 := B95.all k101 (fun i h x => (((ap90).symm) i h x))
    have B105 := B96.all k101 (fun i h x => (((ap91).symm) i h x))
    have B106 := B97.all k101 (fun i h x => (((ap92).symm) i h x))
    have K107 := K98.trans k101 (Grew.ok (S := fun _ => False) gr87 noB_le)
    refine wl_nil fun F108 hF109 => ?_
    have s110 : F108 3 = .int .i64 (p) := (hF109 3).trans s41
    have s111 : F108 4 = .int .i64 (x) := (hF109 4).trans s42
    have s112 : F108 5 = .int .i64 (y) := (hF109 5).trans s43
    have s113 : F108 152 = undef := (hF109 152).trans s44
    have s114 : F108 13 = .pointer (some ⟨p1, 0, none⟩) := (hF109 13).trans s45
    have s115 : F108 15 = .bool true := (hF109 15).trans s46
    have s116 : F108 16 = .pointer (some ⟨p82, 0, none⟩) := (hF109 16).trans rfl
    clear hF109
    refine then_normal ?_
    refine wq_seq ?_
    refine wq_cut (fun FF ww => FF 17 = .bool (decide (0 ≤ p ∧ p ≤ 2 ∧ 0 ≤ x ∧ x ≤ 64 ∧ 0 ≤ y ∧ y ≤ 64)) ∧ FF 3 = .int .i64 (p) ∧ FF 4 = .int .i64 (x) ∧ FF 5 = .int .i64 (y) ∧ FF 13 = .pointer (some ⟨p1, 0, none⟩) ∧ FF 15 = .bool true ∧ FF 16 = .pointer (some ⟨p82, 0, none⟩) ∧ FF 152 = undef ∧ Kept (fun _ => False) w0 ww ∧ Byt ww (T_s) v (l) ∧ Stc ww p1 27 [.int .i64 (X), .int .i64 (Y)] ∧ Owb ww (T58) v53 ((mkF (w) (h) (l)).p0) ∧ Owb ww (T59) v54 ((mkF (w) (h) (l)).p1) ∧ Owb ww (T60) v55 ((mkF (w) (h) (l)).p2) ∧ Stc ww p82 25 [.int .i64 ((mkF (w) (h) (l)).W), .int .i64 ((mkF (w) (h) (l)).H), v53, v54, v55]) ?_ ?_
    · skip
      by_cases d117 : (0) ≤ (p)
      · skip
        by_cases d118 : (p) ≤ (2)
        · skip
          by_cases d119 : (0) ≤ (x)
          · skip
            by_cases d120 : (x) ≤ (64)
            · skip
              by_cases d121 : (0) ≤ (y)
              · skip
                refine wq_region ?_
                refine wl_v (.int .i64 (p)) rfl rfl (y_mov rfl s110 ⟨rfl, rfl⟩) ?_
                refine wl_v (.bool true) rfl rfl (y_geq rfl rfl rfl (decide_eq_true d117) ⟨rfl, rfl⟩) ?_
                refine wl_v (.bool true) rfl rfl (y_mov rfl rfl ⟨rfl, rfl⟩) ?_
                refine wl_vw (.int .i64 (p)) 2 true 38 rfl rfl rfl rfl rfl (y_mov rfl s110 ⟨rfl, rfl⟩) ?_
                refine wl_vw (.bool true) 2 true 38 rfl rfl rfl rfl rfl (y_leq rfl rfl rfl (decide_eq_true d118) ⟨rfl, rfl⟩) ?_
                refine wl_v (.bool true) rfl rfl (y_pickT rfl rfl rfl ⟨rfl, rfl⟩) ?_
                refine wl_v (.bool true) rfl rfl (y_mov rfl rfl ⟨rfl, rfl⟩) ?_
                refine wl_vw (.int .i64 (x)) 6 true 42 rfl rfl rfl rfl rfl (y_mov rfl s111 ⟨rfl, rfl⟩) ?_
                refine wl_vw (.bool true) 6 true 42 rfl rfl rfl rfl rfl (y_geq rfl rfl rfl (decide_eq_true d119) ⟨rfl, rfl⟩) ?_
                refine wl_v (.bool true) rfl rfl (y_pickT rfl rfl rfl ⟨rfl, rfl⟩) ?_
                refine wl_v (.bool true) rfl rfl (y_mov rfl rfl ⟨rfl, rfl⟩) ?_
                refine wl_vw (.int .i64 (x)) 10 true 46 rfl rfl rfl rfl rfl (y_mov rfl s111 ⟨rfl, rfl⟩) ?_
                refine wl_vw (.bool true) 10 true 46 rfl rfl rfl rfl rfl (y_leq rfl rfl rfl (decide_eq_true d120) ⟨rfl, rfl⟩) ?_
                refine wl_v (.bool true) rfl rfl (y_pickT rfl rfl rfl ⟨rfl, rfl⟩) ?_
                refine wl_v (.bool true) rfl rfl (y_mov rfl rfl ⟨rfl, rfl⟩) ?_
                refine wl_vw (.int .i64 (y)) 14 true 50 rfl rfl rfl rfl rfl (y_mov rfl s112 ⟨rfl, rfl⟩) ?_
                refine wl_vw (.bool true) 14 true 50 rfl rfl rfl rfl rfl (y_geq rfl rfl rfl (decide_eq_true d121) ⟨rfl, rfl⟩) ?_
                refine wl_v (.bool true) rfl rfl (y_pickT rfl rfl rfl ⟨rfl, rfl⟩) ?_
                refine wl_v (.bool true) rfl rfl (y_mov rfl rfl ⟨rfl, rfl⟩) ?_
                refine wl_vw (.int .i64 (y)) 18 true 54 rfl rfl rfl rfl rfl (y_mov rfl s112 ⟨rfl, rfl⟩) ?_
                refine wl_vw (.bool (decide ((y) ≤ (64)))) 18 true 54 rfl rfl rfl rfl rfl (y_leq rfl rfl rfl rfl ⟨rfl, rfl⟩) ?_
                refine wl_v (.bool (decide ((y) ≤ (64)))) rfl rfl (y_pickT rfl rfl rfl ⟨rfl, rfl⟩) ?_
                refine wl_v (.bool (decide ((y) ≤ (64)))) rfl rfl (y_asg rfl rfl ⟨rfl, rfl⟩) ?_
                refine wl_nil fun F122 hF123 => ?_
                have s124 : F122 3 = .int .i64 (p) := (hF123 3).trans s110
                have s125 : F122 4 = .int .i64 (x) := (hF123 4).trans s111
                have s126 : F122 5 = .int .i64 (y) := (hF123 5).trans s112
                have s127 : F122 152 = undef := (hF123 152).trans s113
                have s128 : F122 13 = .pointer (some ⟨p1, 0, none⟩) := (hF123 13).trans s114
                have s129 : F122 15 = .bool true := (hF123 15).trans s115
                have s130 : F122 16 = .pointer (some ⟨p82, 0, none⟩) := (hF123 16).trans s116
                have s131 : F122 17 = .bool (decide ((y) ≤ (64))) := (hF123 17).trans rfl
                clear hF123
                exact ⟨s131.trans (congrArg Value.bool (show decide ((y) ≤ (64)) = decide (0 ≤ p ∧ p ≤ 2 ∧ 0 ≤ x ∧ x ≤ 64 ∧ 0 ≤ y ∧ y ≤ 64) from by first | exact (decide_eq_true (by omega)).symm | exact (decide_eq_false (by omega)).symm | exact decide_eq_decide.2 (by omega))), s124, s125, s126, s128, s129, s130, s127, K107, B102, B103, B104, B105, B106, B100⟩
              · skip
                refine wq_region ?_
                refine wl_v (.int .i64 (p)) rfl rfl (y_mov rfl s110 ⟨rfl, rfl⟩) ?_
                refine wl_v (.bool true) rfl rfl (y_geq rfl rfl rfl (decide_eq_true d117) ⟨rfl, rfl⟩) ?_
                refine wl_v (.bool true) rfl rfl (y_mov rfl rfl ⟨rfl, rfl⟩) ?_
                refine wl_vw (.int .i64 (p)) 2 true 38 rfl rfl rfl rfl rfl (y_mov rfl s110 ⟨rfl, rfl⟩) ?_
                refine wl_vw (.bool true) 2 true 38 rfl rfl rfl rfl rfl (y_leq rfl rfl rfl (decide_eq_true d118) ⟨rfl, rfl⟩) ?_
                refine wl_v (.bool true) rfl rfl (y_pickT rfl rfl rfl ⟨rfl, rfl⟩) ?_
                refine wl_v (.bool true) rfl rfl (y_mov rfl rfl ⟨rfl, rfl⟩) ?_
                refine wl_vw (.int .i64 (x)) 6 true 42 rfl rfl rfl rfl rfl (y_mov rfl s111 ⟨rfl, rfl⟩) ?_
                refine wl_vw (.bool true) 6 true 42 rfl rfl rfl rfl rfl (y_geq rfl rfl rfl (decide_eq_true d119) ⟨rfl, rfl⟩) ?_
                refine wl_v (.bool true) rfl rfl (y_pickT rfl rfl rfl ⟨rfl, rfl⟩) ?_
                refine wl_v (.bool true) rfl rfl (y_mov rfl rfl ⟨rfl, rfl⟩) ?_
                refine wl_vw (.int .i64 (x)) 10 true 46 rfl rfl rfl rfl rfl (y_mov rfl s111 ⟨rfl, rfl⟩) ?_
                refine wl_vw (.bool true) 10 true 46 rfl rfl rfl rfl rfl (y_leq rfl rfl rfl (decide_eq_true d120) ⟨rfl, rfl⟩) ?_
                refine wl_v (.bool true) rfl rfl (y_pickT rfl rfl rfl ⟨rfl, rfl⟩) ?_
                refine wl_v (.bool true) rfl rfl (y_mov rfl rfl ⟨rfl, rfl⟩) ?_
                refine wl_vw (.int .i64 (y)) 14 true 50 rfl rfl rfl rfl rfl (y_mov rfl s112 ⟨rfl, rfl⟩) ?_
                refine wl_vw (.bool false) 14 true 50 rfl rfl rfl rfl rfl (y_geq rfl rfl rfl (decide_eq_false d121) ⟨rfl, rfl⟩) ?_
                refine wl_v (.bool false) rfl rfl (y_pickT rfl rfl rfl ⟨rfl, rfl⟩) ?_
                refine wl_v (.bool false) rfl rfl (y_mov rfl rfl ⟨rfl, rfl⟩) ?_
                refine wl_unless 18 true 54 rfl rfl rfl (Or.inl rfl) rfl ?_
                refine wl_unless 18 true 54 rfl rfl rfl (Or.inl rfl) rfl ?_
                refine wl_v (.bool false) rfl rfl (y_pickF rfl rfl rfl ⟨rfl, rfl⟩) ?_
                refine wl_v (.bool false) rfl rfl (y_asg rfl rfl ⟨rfl, rfl⟩) ?_
                refine wl_nil fun F132 hF133 => ?_
                have s134 : F132 3 = .int .i64 (p) := (hF133 3).trans s110
                have s135 : F132 4 = .int .i64 (x) := (hF133 4).trans s111
                have s136 : F132 5 = .int .i64 (y) := (hF133 5).trans s112
                have s137 : F132 152 = undef := (hF133 152).trans s113
                have s138 : F132 13 = .pointer (some ⟨p1, 0, none⟩) := (hF133 13).trans s114
                have s139 : F132 15 = .bool true := (hF133 15).trans s115
                have s140 : F132 16 = .pointer (some ⟨p82, 0, none⟩) := (hF133 16).trans s116
                have s141 : F132 17 = .bool false := (hF133 17).trans rfl
                clear hF133
                exact ⟨s141.trans (congrArg Value.bool (show false = decide (0 ≤ p ∧ p ≤ 2 ∧ 0 ≤ x ∧ x ≤ 64 ∧ 0 ≤ y ∧ y ≤ 64) from by first | exact (decide_eq_true (by omega)).symm | exact (decide_eq_false (by omega)).symm | exact decide_eq_decide.2 (by omega))), s134, s135, s136, s138, s139, s140, s137, K107, B102, B103, B104, B105, B106, B100⟩
            · skip
              refine wq_region ?_
              refine wl_v (.int .i64 (p)) rfl rfl (y_mov rfl s110 ⟨rfl, rfl⟩) ?_
              refine wl_v (.bool true) rfl rfl (y_geq rfl rfl rfl (decide_eq_true d117) ⟨rfl, rfl⟩) ?_
              refine wl_v (.bool true) rfl rfl (y_mov rfl rfl ⟨rfl, rfl⟩) ?_
              refine wl_vw (.int .i64 (p)) 2 true 38 rfl rfl rfl rfl rfl (y_mov rfl s110 ⟨rfl, rfl⟩) ?_
              refine wl_vw (.bool true) 2 true 38 rfl rfl rfl rfl rfl (y_leq rfl rfl rfl (decide_eq_true d118) ⟨rfl, rfl⟩) ?_
              refine wl_v (.bool true) rfl rfl (y_pickT rfl rfl rfl ⟨rfl, rfl⟩) ?_
              refine wl_v (.bool true) rfl rfl (y_mov rfl rfl ⟨rfl, rfl⟩) ?_
              refine wl_vw (.int .i64 (x)) 6 true 42 rfl rfl rfl rfl rfl (y_mov rfl s111 ⟨rfl, rfl⟩) ?_
              refine wl_vw (.bool true) 6 true 42 rfl rfl rfl rfl rfl (y_geq rfl rfl rfl (decide_eq_true d119) ⟨rfl, rfl⟩) ?_
              refine wl_v (.bool true) rfl rfl (y_pickT rfl rfl rfl ⟨rfl, rfl⟩) ?_
              refine wl_v (.bool true) rfl rfl (y_mov rfl rfl ⟨rfl, rfl⟩) ?_
              refine wl_vw (.int .i64 (x)) 10 true 46 rfl rfl rfl rfl rfl (y_mov rfl s111 ⟨rfl, rfl⟩) ?_
              refine wl_vw (.bool false) 10 true 46 rfl rfl rfl rfl rfl (y_leq rfl rfl rfl (decide_eq_false d120) ⟨rfl, rfl⟩) ?_
              refine wl_v (.bool false) rfl rfl (y_pickT rfl rfl rfl ⟨rfl, rfl⟩) ?_
              refine wl_v (.bool false) rfl rfl (y_mov rfl rfl ⟨rfl, rfl⟩) ?_
              refine wl_unless 14 true 50 rfl rfl rfl (Or.inl rfl) rfl ?_
              refine wl_unless 14 true 50 rfl rfl rfl (Or.inl rfl) rfl ?_
              refine wl_v (.bool false) rfl rfl (y_pickF rfl rfl rfl ⟨rfl, rfl⟩) ?_
              refine wl_v (.bool false) rfl rfl (y_mov rfl rfl ⟨rfl, rfl⟩) ?_
              refine wl_unless 18 true 54 rfl rfl rfl (Or.inl rfl) rfl ?_
              refine wl_unless 18 true 54 rfl rfl rfl (Or.inl rfl) rfl ?_
              refine wl_v (.bool false) rfl rfl (y_pickF rfl rfl rfl ⟨rfl, rfl⟩) ?_
              refine wl_v (.bool false) rfl rfl (y_asg rfl rfl ⟨rfl, rfl⟩) ?_
              refine wl_nil fun F142 hF143 => ?_
              have s144 : F142 3 = .int .i64 (p) := (hF143 3).trans s110
              have s145 : F142 4 = .int .i64 (x) := (hF143 4).trans s111
              have s146 : F142 5 = .int .i64 (y) := (hF143 5).trans s112
              have s147 : F142 152 = undef := (hF143 152).trans s113
              have s148 : F142 13 = .pointer (some ⟨p1, 0, none⟩) := (hF143 13).trans s114
              have s149 : F142 15 = .bool true := (hF143 15).trans s115
              have s150 : F142 16 = .pointer (some ⟨p82, 0, none⟩) := (hF143 16).trans s116
              have s151 : F142 17 = .bool false := (hF143 17).trans rfl
              clear hF143
              exact ⟨s151.trans (congrArg Value.bool (show false = decide (0 ≤ p ∧ p ≤ 2 ∧ 0 ≤ x ∧ x ≤ 64 ∧ 0 ≤ y ∧ y ≤ 64) from by first | exact (decide_eq_true (by omega)).symm | exact (decide_eq_false (by omega)).symm | exact decide_eq_decide.2 (by omega))), s144, s145, s146, s148, s149, s150, s147, K107, B102, B103, B104, B105, B106, B100⟩
          · skip
            refine wq_region ?_
            refine wl_v (.int .i64 (p)) rfl rfl (y_mov rfl s110 ⟨rfl, rfl⟩) ?_
            refine wl_v (.bool true) rfl rfl (y_geq rfl rfl rfl (decide_eq_true d117) ⟨rfl, rfl⟩) ?_
            refine wl_v (.bool true) rfl rfl (y_mov rfl rfl ⟨rfl, rfl⟩) ?_
            refine wl_vw (.int .i64 (p)) 2 true 38 rfl rfl rfl rfl rfl (y_mov rfl s110 ⟨rfl, rfl⟩) ?_
            refine wl_vw (.bool true) 2 true 38 rfl rfl rfl rfl rfl (y_leq rfl rfl rfl (decide_eq_true d118) ⟨rfl, rfl⟩) ?_
            refine wl_v (.bool true) rfl rfl (y_pickT rfl rfl rfl ⟨rfl, rfl⟩) ?_
            refine wl_v (.bool true) rfl rfl (y_mov rfl rfl ⟨rfl, rfl⟩) ?_
            refine wl_vw (.int .i64 (x)) 6 true 42 rfl rfl rfl rfl rfl (y_mov rfl s111 ⟨rfl, rfl⟩) ?_
            refine wl_vw (.bool false) 6 true 42 rfl rfl rfl rfl rfl (y_geq rfl rfl rfl (decide_eq_false d119) ⟨rfl, rfl⟩) ?_
            refine wl_v (.bool false) rfl rfl (y_pickT rfl rfl rfl ⟨rfl, rfl⟩) ?_
            refine wl_v (.bool false) rfl rfl (y_mov rfl rfl ⟨rfl, rfl⟩) ?_
            refine wl_unless 10 true 46 rfl rfl rfl (Or.inl rfl) rfl ?_
            refine wl_unless 10 true 46 rfl rfl rfl (Or.inl rfl) rfl ?_
            refine wl_v (.bool false) rfl rfl (y_pickF rfl rfl rfl ⟨rfl, rfl⟩) ?_
            refine wl_v (.bool false) rfl rfl (y_mov rfl rfl ⟨rfl, rfl⟩) ?_
            refine wl_unless 14 true 50 rfl rfl rfl (Or.inl rfl) rfl ?_
            refine wl_unless 14 true 50 rfl rfl rfl (Or.inl rfl) rfl ?_
            refine wl_v (.bool false) rfl rfl (y_pickF rfl rfl rfl ⟨rfl, rfl⟩) ?_
            refine wl_v (.bool false) rfl rfl (y_mov rfl rfl ⟨rfl, rfl⟩) ?_
            refine wl_unless 18 true 54 rfl rfl rfl (Or.inl rfl) rfl ?_
            refine wl_unless 18 true 54 rfl rfl rfl (Or.inl rfl) rfl ?_
            refine wl_v (.bool false) rfl rfl (y_pickF rfl rfl rfl ⟨rfl, rfl⟩) ?_
            refine wl_v (.bool false) rfl rfl (y_asg rfl rfl ⟨rfl, rfl⟩) ?_
            refine wl_nil fun F152 hF153 => ?_
            have s154 : F152 3 = .int .i64 (p) := (hF153 3).trans s110
            have s155 : F152 4 = .int .i64 (x) := (hF153 4).trans s111
            have s156 : F152 5 = .int .i64 (y) := (hF153 5).trans s112
            have s157 : F152 152 = undef := (hF153 152).trans s113
            have s158 : F152 13 = .pointer (some ⟨p1, 0, none⟩) := (hF153 13).trans s114
            have s159 : F152 15 = .bool true := (hF153 15).trans s115
            have s160 : F152 16 = .pointer (some ⟨p82, 0, none⟩) := (hF153 16).trans s116
            have s161 : F152 17 = .bool false := (hF153 17).trans rfl
            clear hF153
            exact ⟨s161.trans (congrArg Value.bool (show false = decide (0 ≤ p ∧ p ≤ 2 ∧ 0 ≤ x ∧ x ≤ 64 ∧ 0 ≤ y ∧ y ≤ 64) from by first | exact (decide_eq_true (by omega)).symm | exact (decide_eq_false (by omega)).symm | exact decide_eq_decide.2 (by omega))), s154, s155, s156, s158, s159, s160, s157, K107, B102, B103, B104, B105, B106, B100⟩
        · skip
          refine wq_region ?_
          refine wl_v (.int .i64 (p)) rfl rfl (y_mov rfl s110 ⟨rfl, rfl⟩) ?_
          refine wl_v (.bool true) rfl rfl (y_geq rfl rfl rfl (decide_eq_true d117) ⟨rfl, rfl⟩) ?_
          refine wl_v (.bool true) rfl rfl (y_mov rfl rfl ⟨rfl, rfl⟩) ?_
          refine wl_vw (.int .i64 (p)) 2 true 38 rfl rfl rfl rfl rfl (y_mov rfl s110 ⟨rfl, rfl⟩) ?_
          refine wl_vw (.bool false) 2 true 38 rfl rfl rfl rfl rfl (y_leq rfl rfl rfl (decide_eq_false d118) ⟨rfl, rfl⟩) ?_
          refine wl_v (.bool false) rfl rfl (y_pickT rfl rfl rfl ⟨rfl, rfl⟩) ?_
          refine wl_v (.bool false) rfl rfl (y_mov rfl rfl ⟨rfl, rfl⟩) ?_
          refine wl_unless 6 true 42 rfl rfl rfl (Or.inl rfl) rfl ?_
          refine wl_unless 6 true 42 rfl rfl rfl (Or.inl rfl) rfl ?_
          refine wl_v (.bool false) rfl rfl (y_pickF rfl rfl rfl ⟨rfl, rfl⟩) ?_
          refine wl_v (.bool false) rfl rfl (y_mov rfl rfl ⟨rfl, rfl⟩) ?_
          refine wl_unless 10 true 46 rfl rfl rfl (Or.inl rfl) rfl ?_
          refine wl_unless 10 true 46 rfl rfl rfl (Or.inl rfl) rfl ?_
          refine wl_v (.bool false) rfl rfl (y_pickF rfl rfl rfl ⟨rfl, rfl⟩) ?_
          refine wl_v (.bool false) rfl rfl (y_mov rfl rfl ⟨rfl, rfl⟩) ?_
          refine wl_unless 14 true 50 rfl rfl rfl (Or.inl rfl) rfl ?_
          refine wl_unless 14 true 50 rfl rfl rfl (Or.inl rfl) rfl ?_
          refine wl_v (.bool false) rfl rfl (y_pickF rfl rfl rfl ⟨rfl, rfl⟩) ?_
          refine wl_v (.bool false) rfl rfl (y_mov rfl rfl ⟨rfl, rfl⟩) ?_
          refine wl_unless 18 true 54 rfl rfl rfl (Or.inl rfl) rfl ?_
          refine wl_unless 18 true 54 rfl rfl rfl (Or.inl rfl) rfl ?_
          refine wl_v (.bool false) rfl rfl (y_pickF rfl rfl rfl ⟨rfl, rfl⟩) ?_
          refine wl_v (.bool false) rfl rfl (y_asg rfl rfl ⟨rfl, rfl⟩) ?_
          refine wl_nil fun F162 hF163 => ?_
          have s164 : F162 3 = .int .i64 (p) := (hF163 3).trans s110
          have s165 : F162 4 = .int .i64 (x) := (hF163 4).trans s111
          have s166 : F162 5 = .int .i64 (y) := (hF163 5).trans s112
          have s167 : F162 152 = undef := (hF163 152).trans s113
          have s168 : F162 13 = .pointer (some ⟨p1, 0, none⟩) := (hF163 13).trans s114
          have s169 : F162 15 = .bool true := (hF163 15).trans s115
          have s170 : F162 16 = .pointer (some ⟨p82, 0, none⟩) := (hF163 16).trans s116
          have s171 : F162 17 = .bool false := (hF163 17).trans rfl
          clear hF163
          exact ⟨s171.trans (congrArg Value.bool (show false = decide (0 ≤ p ∧ p ≤ 2 ∧ 0 ≤ x ∧ x ≤ 64 ∧ 0 ≤ y ∧ y ≤ 64) from by first | exact (decide_eq_true (by omega)).symm | exact (decide_eq_false (by omega)).symm | exact decide_eq_decide.2 (by omega))), s164, s165, s166, s168, s169, s170, s167, K107, B102, B103, B104, B105, B106, B100⟩
      · skip
        refine wq_region ?_
        refine wl_v (.int .i64 (p)) rfl rfl (y_mov rfl s110 ⟨rfl, rfl⟩) ?_
        refine wl_v (.bool false) rfl rfl (y_geq rfl rfl rfl (decide_eq_false d117) ⟨rfl, rfl⟩) ?_
        refine wl_v (.bool false) rfl rfl (y_mov rfl rfl ⟨rfl, rfl⟩) ?_
        refine wl_unless 2 true 38 rfl rfl rfl (Or.inl rfl) rfl ?_
        refine wl_unless 2 true 38 rfl rfl rfl (Or.inl rfl) rfl ?_
        refine wl_v (.bool false) rfl rfl (y_pickF rfl rfl rfl ⟨rfl, rfl⟩) ?_
        refine wl_v (.bool false) rfl rfl (y_mov rfl rfl ⟨rfl, rfl⟩) ?_
        refine wl_unless 6 true 42 rfl rfl rfl (Or.inl rfl) rfl ?_
        refine wl_unless 6 true 42 rfl rfl rfl (Or.inl rfl) rfl ?_
        refine wl_v (.bool false) rfl rfl (y_pickF rfl rfl rfl ⟨rfl, rfl⟩) ?_
        refine wl_v (.bool false) rfl rfl (y_mov rfl rfl ⟨rfl, rfl⟩) ?_
        refine wl_unless 10 true 46 rfl rfl rfl (Or.inl rfl) rfl ?_
        refine wl_unless 10 true 46 rfl rfl rfl (Or.inl rfl) rfl ?_
        refine wl_v (.bool false) rfl rfl (y_pickF rfl rfl rfl ⟨rfl, rfl⟩) ?_
        refine wl_v (.bool false) rfl rfl (y_mov rfl rfl ⟨rfl, rfl⟩) ?_
        refine wl_unless 14 true 50 rfl rfl rfl (Or.inl rfl) rfl ?_
        refine wl_unless 14 true 50 rfl rfl rfl (Or.inl rfl) rfl ?_
        refine wl_v (.bool false) rfl rfl (y_pickF rfl rfl rfl ⟨rfl, rfl⟩) ?_
        refine wl_v (.bool false) rfl rfl (y_mov rfl rfl ⟨rfl, rfl⟩) ?_
        refine wl_unless 18 true 54 rfl rfl rfl (Or.inl rfl) rfl ?_
        refine wl_unless 18 true 54 rfl rfl rfl (Or.inl rfl) rfl ?_
        refine wl_v (.bool false) rfl rfl (y_pickF rfl rfl rfl ⟨rfl, rfl⟩) ?_
        refine wl_v (.bool false) rfl rfl (y_asg rfl rfl ⟨rfl, rfl⟩) ?_
        refine wl_nil fun F172 hF173 => ?_
        have s174 : F172 3 = .int .i64 (p) := (hF173 3).trans s110
        have s175 : F172 4 = .int .i64 (x) := (hF173 4).trans s111
        have s176 : F172 5 = .int .i64 (y) := (hF173 5).trans s112
        have s177 : F172 152 = undef := (hF173 152).trans s113
        have s178 : F172 13 = .pointer (some ⟨p1, 0, none⟩) := (hF173 13).trans s114
        have s179 : F172 15 = .bool true := (hF173 15).trans s115
        have s180 : F172 16 = .pointer (some ⟨p82, 0, none⟩) := (hF173 16).trans s116
        have s181 : F172 17 = .bool false := (hF173 17).trans rfl
        clear hF173
        exact ⟨s181.trans (congrArg Value.bool (show false = decide (0 ≤ p ∧ p ≤ 2 ∧ 0 ≤ x ∧ x ≤ 64 ∧ 0 ≤ y ∧ y ≤ 64) from by first | exact (decide_eq_true (by omega)).symm | exact (decide_eq_false (by omega)).symm | exact decide_eq_decide.2 (by omega))), s174, s175, s176, s178, s179, s180, s177, K107, B102, B103, B104, B105, B106, B100⟩
    · rintro F182 w183 ⟨s185, s186, s187, s188, s189, s190, s191, s192, K184, B193, B194, B195, B196, B197, B198⟩
      refine then_normal ?_
      refine wq_seq ?_
      refine wq_cut (fun FF ww => FF 18 = .bool (decide (-31 ≤ X ∧ X ≤ 31 ∧ -31 ≤ Y ∧ Y ≤ 31)) ∧ FF 3 = .int .i64 (p) ∧ FF 4 = .int .i64 (x) ∧ FF 5 = .int .i64 (y) ∧ FF 13 = .pointer (some ⟨p1, 0, none⟩) ∧ FF 15 = .bool true ∧ FF 16 = .pointer (some ⟨p82, 0, none⟩) ∧ FF 17 = .bool (decide (0 ≤ p ∧ p ≤ 2 ∧ 0 ≤ x ∧ x ≤ 64 ∧ 0 ≤ y ∧ y ≤ 64)) ∧ FF 152 = undef ∧ Kept (fun _ => False) w0 ww ∧ Byt ww (T_s) v (l) ∧ Stc ww p1 27 [.int .i64 (X), .int .i64 (Y)] ∧ Owb ww (T58) v53 ((mkF (w) (h) (l)).p0) ∧ Owb ww (T59) v54 ((mkF (w) (h) (l)).p1) ∧ Owb ww (T60) v55 ((mkF (w) (h) (l)).p2) ∧ Stc ww p82 25 [.int .i64 ((mkF (w) (h) (l)).W), .int .i64 ((mkF (w) (h) (l)).H), v53, v54, v55]) ?_ ?_
      · skip
        by_cases d199 : (-31) ≤ (X)
        · skip
          by_cases d200 : (X) ≤ (31)
          · skip
            by_cases d201 : (-31) ≤ (Y)
            · skip
              refine wq_region ?_
              refine wl_v (.pointer (some ⟨p1, 0, none⟩)) rfl rfl (y_fieldR (n := 1) rfl s189 Try.underlying27 rfl (by kernel_rfl) (by decide) rfl ⟨rfl, rfl⟩) ?_
              refine wl_v (.int .i64 (X)) rfl rfl (y_ld_stc rfl rfl Try.underlying3 B194 rfl rfl ⟨rfl, rfl⟩) ?_
              refine wl_v (.bool true) rfl rfl (y_geq rfl rfl rfl (decide_eq_true d199) ⟨rfl, rfl⟩) ?_
              refine wl_v (.bool true) rfl rfl (y_mov rfl rfl ⟨rfl, rfl⟩) ?_
              refine wl_vw (.pointer (some ⟨p1, 0, none⟩)) 3 true 61 rfl rfl rfl rfl rfl (y_fieldR (n := 1) rfl s189 Try.underlying27 rfl (by kernel_rfl) (by decide) rfl ⟨rfl, rfl⟩) ?_
              refine wl_vw (.int .i64 (X)) 3 true 61 rfl rfl rfl rfl rfl (y_ld_stc rfl rfl Try.underlying3 B194 rfl rfl ⟨rfl, rfl⟩) ?_
              refine wl_vw (.bool true) 3 true 61 rfl rfl rfl rfl rfl (y_leq rfl rfl rfl (decide_eq_true d200) ⟨rfl, rfl⟩) ?_
              refine wl_v (.bool true) rfl rfl (y_pickT rfl rfl rfl ⟨rfl, rfl⟩) ?_
              refine wl_v (.bool true) rfl rfl (y_mov rfl rfl ⟨rfl, rfl⟩) ?_
              refine wl_vw (.pointer (some ⟨p1, 1, none⟩)) 8 true 66 rfl rfl rfl rfl rfl (y_fieldR (n := 1) rfl s189 Try.underlying27 rfl (by kernel_rfl) (by decide) rfl ⟨rfl, rfl⟩) ?_
              refine wl_vw (.int .i64 (Y)) 8 true 66 rfl rfl rfl rfl rfl (y_ld_stc rfl rfl Try.underlying3 B194 rfl rfl ⟨rfl, rfl⟩) ?_
              refine wl_vw (.bool true) 8 true 66 rfl rfl rfl rfl rfl (y_geq rfl rfl rfl (decide_eq_true d201) ⟨rfl, rfl⟩) ?_
              refine wl_v (.bool true) rfl rfl (y_pickT rfl rfl rfl ⟨rfl, rfl⟩) ?_
              refine wl_v (.bool true) rfl rfl (y_mov rfl rfl ⟨rfl, rfl⟩) ?_
              refine wl_vw (.pointer (some ⟨p1, 1, none⟩)) 13 true 71 rfl rfl rfl rfl rfl (y_fieldR (n := 1) rfl s189 Try.underlying27 rfl (by kernel_rfl) (by decide) rfl ⟨rfl, rfl⟩) ?_
              refine wl_vw (.int .i64 (Y)) 13 true 71 rfl rfl rfl rfl rfl (y_ld_stc rfl rfl Try.underlying3 B194 rfl rfl ⟨rfl, rfl⟩) ?_
              refine wl_vw (.bool (decide ((Y) ≤ (31)))) 13 true 71 rfl rfl rfl rfl rfl (y_leq rfl rfl rfl rfl ⟨rfl, rfl⟩) ?_
              refine wl_v (.bool (decide ((Y) ≤ (31)))) rfl rfl (y_pickT rfl rfl rfl ⟨rfl, rfl⟩) ?_
              refine wl_v (.bool (decide ((Y) ≤ (31)))) rfl rfl (y_asg rfl rfl ⟨rfl, rfl⟩) ?_
              refine wl_nil fun F202 hF203 => ?_
              have s204 : F202 17 = .bool (decide (0 ≤ p ∧ p ≤ 2 ∧ 0 ≤ x ∧ x ≤ 64 ∧ 0 ≤ y ∧ y ≤ 64)) := (hF203 17).trans s185
              have s205 : F202 3 = .int .i64 (p) := (hF203 3).trans s186
              have s206 : F202 4 = .int .i64 (x) := (hF203 4).trans s187
              have s207 : F202 5 = .int .i64 (y) := (hF203 5).trans s188
              have s208 : F202 13 = .pointer (some ⟨p1, 0, none⟩) := (hF203 13).trans s189
              have s209 : F202 15 = .bool true := (hF203 15).trans s190
              have s210 : F202 16 = .pointer (some ⟨p82, 0, none⟩) := (hF203 16).trans s191
              have s211 : F202 152 = undef := (hF203 152).trans s192
              have s212 : F202 18 = .bool (decide ((Y) ≤ (31))) := (hF203 18).trans rfl
              clear hF203
              exact ⟨s212.trans (congrArg Value.bool (show decide ((Y) ≤ (31)) = decide (-31 ≤ X ∧ X ≤ 31 ∧ -31 ≤ Y ∧ Y ≤ 31) from by first | exact (decide_eq_true (by omega)).symm | exact (decide_eq_false (by omega)).symm | exact decide_eq_decide.2 (by omega))), s205, s206, s207, s208, s209, s210, s204, s211, K184, B193, B194, B195, B196, B197, B198⟩
            · skip
              refine wq_region ?_
              refine wl_v (.pointer (some ⟨p1, 0, none⟩)) rfl rfl (y_fieldR (n := 1) rfl s189 Try.underlying27 rfl (by kernel_rfl) (by decide) rfl ⟨rfl, rfl⟩) ?_
              refine wl_v (.int .i64 (X)) rfl rfl (y_ld_stc rfl rfl Try.underlying3 B194 rfl rfl ⟨rfl, rfl⟩) ?_
              refine wl_v (.bool true) rfl rfl (y_geq rfl rfl rfl (decide_eq_true d199) ⟨rfl, rfl⟩) ?_
              refine wl_v (.bool true) rfl rfl (y_mov rfl rfl ⟨rfl, rfl⟩) ?_
              refine wl_vw (.pointer (some ⟨p1, 0, none⟩)) 3 true 61 rfl rfl rfl rfl rfl (y_fieldR (n := 1) rfl s189 Try.underlying27 rfl (by kernel_rfl) (by decide) rfl ⟨rfl, rfl⟩) ?_
              refine wl_vw (.int .i64 (X)) 3 true 61 rfl rfl rfl rfl rfl (y_ld_stc rfl rfl Try.underlying3 B194 rfl rfl ⟨rfl, rfl⟩) ?_
              refine wl_vw (.bool true) 3 true 61 rfl rfl rfl rfl rfl (y_leq rfl rfl rfl (decide_eq_true d200) ⟨rfl, rfl⟩) ?_
              refine wl_v (.bool true) rfl rfl (y_pickT rfl rfl rfl ⟨rfl, rfl⟩) ?_
              refine wl_v (.bool true) rfl rfl (y_mov rfl rfl ⟨rfl, rfl⟩) ?_
              refine wl_vw (.pointer (some ⟨p1, 1, none⟩)) 8 true 66 rfl rfl rfl rfl rfl (y_fieldR (n := 1) rfl s189 Try.underlying27 rfl (by kernel_rfl) (by decide) rfl ⟨rfl, rfl⟩) ?_
              refine wl_vw (.int .i64 (Y)) 8 true 66 rfl rfl rfl rfl rfl (y_ld_stc rfl rfl Try.underlying3 B194 rfl rfl ⟨rfl, rfl⟩) ?_
              refine wl_vw (.bool false) 8 true 66 rfl rfl rfl rfl rfl (y_geq rfl rfl rfl (decide_eq_false d201) ⟨rfl, rfl⟩) ?_
              refine wl_v (.bool false) rfl rfl (y_pickT rfl rfl rfl ⟨rfl, rfl⟩) ?_
              refine wl_v (.bool false) rfl rfl (y_mov rfl rfl ⟨rfl, rfl⟩) ?_
              refine wl_unless 13 true 71 rfl rfl rfl (Or.inl rfl) rfl ?_
              refine wl_unless 13 true 71 rfl rfl rfl (Or.inl rfl) rfl ?_
              refine wl_unless 13 true 71 rfl rfl rfl (Or.inl rfl) rfl ?_
              refine wl_v (.bool false) rfl rfl (y_pickF rfl rfl rfl ⟨rfl, rfl⟩) ?_
              refine wl_v (.bool false) rfl rfl (y_asg rfl rfl ⟨rfl, rfl⟩) ?_
              refine wl_nil fun F213 hF214 => ?_
              have s215 : F213 17 = .bool (decide (0 ≤ p ∧ p ≤ 2 ∧ 0 ≤ x ∧ x ≤ 64 ∧ 0 ≤ y ∧ y ≤ 64)) := (hF214 17).trans s185
              have s216 : F213 3 = .int .i64 (p) := (hF214 3).trans s186
              have s217 : F213 4 = .int .i64 (x) := (hF214 4).trans s187
              have s218 : F213 5 = .int .i64 (y) := (hF214 5).trans s188
              have s219 : F213 13 = .pointer (some ⟨p1, 0, none⟩) := (hF214 13).trans s189
              have s220 : F213 15 = .bool true := (hF214 15).trans s190
              have s221 : F213 16 = .pointer (some ⟨p82, 0, none⟩) := (hF214 16).trans s191
              have s222 : F213 152 = undef := (hF214 152).trans s192
              have s223 : F213 18 = .bool false := (hF214 18).trans rfl
              clear hF214
              exact ⟨s223.trans (congrArg Value.bool (show false = decide (-31 ≤ X ∧ X ≤ 31 ∧ -31 ≤ Y ∧ Y ≤ 31) from by first | exact (decide_eq_true (by omega)).symm | exact (decide_eq_false (by omega)).symm | exact decide_eq_decide.2 (by omega))), s216, s217, s218, s219, s220, s221, s215, s222, K184, B193, B194, B195, B196, B197, B198⟩
          · skip
            refine wq_region ?_
            refine wl_v (.pointer (some ⟨p1, 0, none⟩)) rfl rfl (y_fieldR (n := 1) rfl s189 Try.underlying27 rfl (by kernel_rfl) (by decide) rfl ⟨rfl, rfl⟩) ?_
            refine wl_v (.int .i64 (X)) rfl rfl (y_ld_stc rfl rfl Try.underlying3 B194 rfl rfl ⟨rfl, rfl⟩) ?_
            refine wl_v (.bool true) rfl rfl (y_geq rfl rfl rfl (decide_eq_true d199) ⟨rfl, rfl⟩) ?_
            refine wl_v (.bool true) rfl rfl (y_mov rfl rfl ⟨rfl, rfl⟩) ?_
            refine wl_vw (.pointer (some ⟨p1, 0, none⟩)) 3 true 61 rfl rfl rfl rfl rfl (y_fieldR (n := 1) rfl s189 Try.underlying27 rfl (by kernel_rfl) (by decide) rfl ⟨rfl, rfl⟩) ?_
            refine wl_vw (.int .i64 (X)) 3 true 61 rfl rfl rfl rfl rfl (y_ld_stc rfl rfl Try.underlying3 B194 rfl rfl ⟨rfl, rfl⟩) ?_
            refine wl_vw (.bool false) 3 true 61 rfl rfl rfl rfl rfl (y_leq rfl rfl rfl (decide_eq_false d200) ⟨rfl, rfl⟩) ?_
            refine wl_v (.bool false) rfl rfl (y_pickT rfl rfl rfl ⟨rfl, rfl⟩) ?_
            refine wl_v (.bool false) rfl rfl (y_mov rfl rfl ⟨rfl, rfl⟩) ?_
            refine wl_unless 8 true 66 rfl rfl rfl (Or.inl rfl) rfl ?_
            refine wl_unless 8 true 66 rfl rfl rfl (Or.inl rfl) rfl ?_
            refine wl_unless 8 true 66 rfl rfl rfl (Or.inl rfl) rfl ?_
            refine wl_v (.bool false) rfl rfl (y_pickF rfl rfl rfl ⟨rfl, rfl⟩) ?_
            refine wl_v (.bool false) rfl rfl (y_mov rfl rfl ⟨rfl, rfl⟩) ?_
            refine wl_unless 13 true 71 rfl rfl rfl (Or.inl rfl) rfl ?_
            refine wl_unless 13 true 71 rfl rfl rfl (Or.inl rfl) rfl ?_
            refine wl_unless 13 true 71 rfl rfl rfl (Or.inl rfl) rfl ?_
            refine wl_v (.bool false) rfl rfl (y_pickF rfl rfl rfl ⟨rfl, rfl⟩) ?_
            refine wl_v (.bool false) rfl rfl (y_asg rfl rfl ⟨rfl, rfl⟩) ?_
            refine wl_nil fun F224 hF225 => ?_
            have s226 : F224 17 = .bool (decide (0 ≤ p ∧ p ≤ 2 ∧ 0 ≤ x ∧ x ≤ 64 ∧ 0 ≤ y ∧ y ≤ 64)) := (hF225 17).trans s185
            have s227 : F224 3 = .int .i64 (p) := (hF225 3).trans s186
            have s228 : F224 4 = .int .i64 (x) := (hF225 4).trans s187
            have s229 : F224 5 = .int .i64 (y) := (hF225 5).trans s188
            have s230 : F224 13 = .pointer (some ⟨p1, 0, none⟩) := (hF225 13).trans s189
            have s231 : F224 15 = .bool true := (hF225 15).trans s190
            have s232 : F224 16 = .pointer (some ⟨p82, 0, none⟩) := (hF225 16).trans s191
            have s233 : F224 152 = undef := (hF225 152).trans s192
            have s234 : F224 18 = .bool false := (hF225 18).trans rfl
            clear hF225
            exact ⟨s234.trans (congrArg Value.bool (show false = decide (-31 ≤ X ∧ X ≤ 31 ∧ -31 ≤ Y ∧ Y ≤ 31) from by first | exact (decide_eq_true (by omega)).symm | exact (decide_eq_false (by omega)).symm | exact decide_eq_decide.2 (by omega))), s227, s228, s229, s230, s231, s232, s226, s233, K184, B193, B194, B195, B196, B197, B198⟩
        · skip
          refine wq_region ?_
          refine wl_v (.pointer (some ⟨p1, 0, none⟩)) rfl rfl (y_fieldR (n := 1) rfl s189 Try.underlying27 rfl (by kernel_rfl) (by decide) rfl ⟨rfl, rfl⟩) ?_
          refine wl_v (.int .i64 (X)) rfl rfl (y_ld_stc rfl rfl Try.underlying3 B194 rfl rfl ⟨rfl, rfl⟩) ?_
          refine wl_v (.bool false) rfl rfl (y_geq rfl rfl rfl (decide_eq_false d199) ⟨rfl, rfl⟩) ?_
          refine wl_v (.bool false) rfl rfl (y_mov rfl rfl ⟨rfl, rfl⟩) ?_
          refine wl_unless 3 true 61 rfl rfl rfl (Or.inl rfl) rfl ?_
          refine wl_unless 3 true 61 rfl rfl rfl (Or.inl rfl) rfl ?_
          refine wl_unless 3 true 61 rfl rfl rfl (Or.inl rfl) rfl ?_
          refine wl_v (.bool false) rfl rfl (y_pickF rfl rfl rfl ⟨rfl, rfl⟩) ?_
          refine wl_v (.bool false) rfl rfl (y_mov rfl rfl ⟨rfl, rfl⟩) ?_
          refine wl_unless 8 true 66 rfl rfl rfl (Or.inl rfl) rfl ?_
          refine wl_unless 8 true 66 rfl rfl rfl (Or.inl rfl) rfl ?_
          refine wl_unless 8 true 66 rfl rfl rfl (Or.inl rfl) rfl ?_
          refine wl_v (.bool false) rfl rfl (y_pickF rfl rfl rfl ⟨rfl, rfl⟩) ?_
          refine wl_v (.bool false) rfl rfl (y_mov rfl rfl ⟨rfl, rfl⟩) ?_
          refine wl_unless 13 true 71 rfl rfl rfl (Or.inl rfl) rfl ?_
          refine wl_unless 13 true 71 rfl rfl rfl (Or.inl rfl) rfl ?_
          refine wl_unless 13 true 71 rfl rfl rfl (Or.inl rfl) rfl ?_
          refine wl_v (.bool false) rfl rfl (y_pickF rfl rfl rfl ⟨rfl, rfl⟩) ?_
          refine wl_v (.bool false) rfl rfl (y_asg rfl rfl ⟨rfl, rfl⟩) ?_
          refine wl_nil fun F235 hF236 => ?_
          have s237 : F235 17 = .bool (decide (0 ≤ p ∧ p ≤ 2 ∧ 0 ≤ x ∧ x ≤ 64 ∧ 0 ≤ y ∧ y ≤ 64)) := (hF236 17).trans s185
          have s238 : F235 3 = .int .i64 (p) := (hF236 3).trans s186
          have s239 : F235 4 = .int .i64 (x) := (hF236 4).trans s187
          have s240 : F235 5 = .int .i64 (y) := (hF236 5).trans s188
          have s241 : F235 13 = .pointer (some ⟨p1, 0, none⟩) := (hF236 13).trans s189
          have s242 : F235 15 = .bool true := (hF236 15).trans s190
          have s243 : F235 16 = .pointer (some ⟨p82, 0, none⟩) := (hF236 16).trans s191
          have s244 : F235 152 = undef := (hF236 152).trans s192
          have s245 : F235 18 = .bool false := (hF236 18).trans rfl
          clear hF236
          exact ⟨s245.trans (congrArg Value.bool (show false = decide (-31 ≤ X ∧ X ≤ 31 ∧ -31 ≤ Y ∧ Y ≤ 31) from by first | exact (decide_eq_true (by omega)).symm | exact (decide_eq_false (by omega)).symm | exact decide_eq_decide.2 (by omega))), s238, s239, s240, s241, s242, s243, s237, s244, K184, B193, B194, B195, B196, B197, B198⟩
      · rintro F246 w247 ⟨s249, s250, s251, s252, s253, s254, s255, s256, s257, K248, B258, B259, B260, B261, B262, B263⟩
        refine then_normal ?_
        refine wq_seq ?_
        refine wq_region ?_
        refine wl_v (.agg #[.int .i64 ((mkF (w) (h) (l)).W), .int .i64 ((mkF (w) (h) (l)).H), v53, v54, v55]) rfl rfl (y_load_stc stcT_frame rfl s255 B263 ⟨rfl, rfl⟩) ?_
        refine wl_v (.int .i64 (p)) rfl rfl (y_mov rfl s250 ⟨rfl, rfl⟩) ?_
        refine wl_v (.int .i64 (x)) rfl rfl (y_mov rfl s251 ⟨rfl, rfl⟩) ?_
        refine wl_v (.int .i64 (y)) rfl rfl (y_mov rfl s252 ⟨rfl, rfl⟩) ?_
        refine wl_v (.agg #[.int .i64 (X), .int .i64 (Y)]) rfl rfl (y_load_stc stcT_vector rfl s253 B259 ⟨rfl, rfl⟩) ?_
        refine wl_call (R := fun v_ w_ => v_ = .tuple #[blkV (mvB (mkF (w) (h) (l)) (p) (x) (y) (X) (Y)), .int .i64 (mvE (mkF (w) (h) (l)) (p) (x) (y) (X) (Y))] ∧ Kept (fun _ => False) w247 w_) rfl rfl (y_cs rfl rfl rfl (fun _ _ => by kernel_rfl) (ev_func _) (vsC rfl (vsC rfl (vsC rfl (vsC rfl (vsC rfl vsN))))) (mo_predict (p) (x) (y) (X) (Y) (mkF (w) (h) (l)) (v53) (v54) (v55) (T58) (T59) (T60) _  (B260).byt (B261).byt (B262).byt ) (fun e_ w_ h_ => ⟨_, h_.1, rfl, h_.2⟩)) ?_
        rintro _ w264 ⟨rfl, k265⟩
        have B266 := B258.all k265 Apart.none
        have B267 := B259.all k265 id
        have B268 := B260.all k265 Apart.none
        have B269 := B261.all k265 Apart.none
        have B270 := B262.all k265 Apart.none
        have B271 := B263.all k265 id
        have K272 := K248.trans k265 (fun _ _ x => x.elim)
        refine wl_v (.tuple #[blkV (mvB (mkF (w) (h) (l)) (p) (x) (y) (X) (Y)), .int .i64 (mvE (mkF (w) (h) (l)) (p) (x) (y) (X) (Y))]) rfl rfl (y_mov rfl rfl ⟨rfl, rfl⟩) ?_
        refine wl_v (blkV (mvB (mkF (w) (h) (l)) (p) (x) (y) (X) (Y))) rfl rfl (y_ext rfl rfl rfl ⟨rfl, rfl⟩) ?_
        refine wl_v (.int .i64 (mvE (mkF (w) (h) (l)) (p) (x) (y) (X) (Y))) rfl rfl (y_ext rfl rfl rfl ⟨rfl, rfl⟩) ?_
        refine wl_alloc_blk rfl rfl rfl blkT_block.2.2 fun p273 w274 e277 B275 k276 => ?_
        have g278 := onB_new (Nat.le_of_eq e277.symm)
        have gr279 : Grew w0 noB (onB p273) := Grew.new K272 g278
        have ap280 : Apart (onB p273) (T_s) := Apart.new g278 (B266).live
        have ap281 : Apart (onB p273) (onB p1) := Apart.new g278 (onB_live (B267).lt)
        have ap282 : Apart (onB p273) (T58) := Apart.new g278 (B268).live
        have ap283 : Apart (onB p273) (T59) := Apart.new g278 (B269).live
        have ap284 : Apart (onB p273) (T60) := Apart.new g278 (B270).live
        have ap285 : Apart (onB p273) (onB p82) := Apart.new g278 (onB_live (B271).lt)
        clear e277 g278
        have B286 := B266.all k276 Apart.none
        have B287 := B267.all k276 id
        have B288 := B268.all k276 Apart.none
        have B289 := B269.all k276 Apart.none
        have B290 := B270.all k276 Apart.none
        have B291 := B271.all k276 id
        have K292 := K272.trans k276 (fun _ _ x => x.elim)
        refine wl_store_blk blkT_block rfl rfl rfl rfl rfl B275 fun w293 B294 k295 => ?_
        have B296 := B286.all k295 (fun i h x => (((ap280).symm) i h x))
        have B297 := B287.all k295 (fun x => (((ap281).symm) p1 rfl x))
        have B298 := B288.all k295 (fun i h x => (((ap282).symm) i h x))
        have B299 := B289.all k295 (fun i h x => (((ap283).symm) i h x))
        have B300 := B290.all k295 (fun i h x => (((ap284).symm) i h x))
        have B301 := B291.all k295 (fun x => (((ap285).symm) p82 rfl x))
        have K302 := K292.trans k295 (Grew.ok (S := fun _ => False) gr279 noB_le)
        refine wl_v (.int .i64 (mvE (mkF (w) (h) (l)) (p) (x) (y) (X) (Y))) rfl rfl (y_asg rfl rfl ⟨rfl, rfl⟩) ?_
        refine wl_nil fun F303 hF304 => ?_
        have s305 : F303 18 = .bool (decide (-31 ≤ X ∧ X ≤ 31 ∧ -31 ≤ Y ∧ Y ≤ 31)) := (hF304 18).trans s249
        have s306 : F303 3 = .int .i64 (p) := (hF304 3).trans s250
        have s307 : F303 4 = .int .i64 (x) := (hF304 4).trans s251
        have s308 : F303 5 = .int .i64 (y) := (hF304 5).trans s252
        have s309 : F303 13 = .pointer (some ⟨p1, 0, none⟩) := (hF304 13).trans s253
        have s310 : F303 15 = .bool true := (hF304 15).trans s254
        have s311 : F303 16 = .pointer (some ⟨p82, 0, none⟩) := (hF304 16).trans s255
        have s312 : F303 17 = .bool (decide (0 ≤ p ∧ p ≤ 2 ∧ 0 ≤ x ∧ x ≤ 64 ∧ 0 ≤ y ∧ y ≤ 64)) := (hF304 17).trans s256
        have s313 : F303 152 = undef := (hF304 152).trans s257
        have s314 : F303 20 = .int .i64 (mvE (mkF (w) (h) (l)) (p) (x) (y) (X) (Y)) := (hF304 20).trans rfl
        clear hF304
        refine then_normal ?_
        refine wq_seq ?_
        refine wq_region ?_
        refine wl_v (.agg #[.int .i64 (0), .int .i64 (0), .slice none 0 0, .slice none 0 0, .slice none 0 0]) rfl rfl (y_buildL (l' := []) (cells := #[.int .i64 (0), .int .i64 (0), .slice none 0 0, .slice none 0 0, .slice none 0 0]) rfl bpN (by kernel_rfl) rfl ⟨rfl, rfl⟩) ?_
        refine wl_v (.int .i64 (p)) rfl rfl (y_mov rfl s306 ⟨rfl, rfl⟩) ?_
        refine wl_v (.int .i64 (x)) rfl rfl (y_mov rfl s307 ⟨rfl, rfl⟩) ?_
        refine wl_v (.int .i64 (y)) rfl rfl (y_mov rfl s308 ⟨rfl, rfl⟩) ?_
        refine wl_v (.agg #[.int .i64 (X), .int .i64 (Y)]) rfl rfl (y_load_stc stcT_vector rfl s309 B297 ⟨rfl, rfl⟩) ?_
        refine wl_call (R := fun v_ w_ => v_ = .tuple #[blkV (mvB (FD.mk (0) (0) ([]) ([]) ([])) (p) (x) (y) (X) (Y)), .int .i64 (mvE (FD.mk (0) (0) ([]) ([]) ([])) (p) (x) (y) (X) (Y))] ∧ Kept (fun _ => False) w293 w_) rfl rfl (y_cs rfl rfl rfl (fun _ _ => by kernel_rfl) (ev_func _) (vsC rfl (vsC rfl (vsC rfl (vsC rfl (vsC rfl vsN))))) (mo_predict (p) (x) (y) (X) (Y) (FD.mk (0) (0) ([]) ([]) ([])) (.slice none 0 0) (.slice none 0 0) (.slice none 0 0) (noB) (noB) (noB) _  (Byt.nil _) (Byt.nil _) (Byt.nil _) ) (fun e_ w_ h_ => ⟨_, h_.1, rfl, h_.2⟩)) ?_
        rintro _ w315 ⟨rfl, k316⟩
        have B317 := B296.all k316 Apart.none
        have B318 := B297.all k316 id
        have B319 := B298.all k316 Apart.none
        have B320 := B299.all k316 Apart.none
        have B321 := B300.all k316 Apart.none
        have B322 := B301.all k316 id
        have B323 := B294.all k316 id
        have K324 := K302.trans k316 (fun _ _ x => x.elim)
        refine wl_v (.tuple #[blkV (mvB (FD.mk (0) (0) ([]) ([]) ([])) (p) (x) (y) (X) (Y)), .int .i64 (mvE (FD.mk (0) (0) ([]) ([]) ([])) (p) (x) (y) (X) (Y))]) rfl rfl (y_mov rfl rfl ⟨rfl, rfl⟩) ?_
        refine wl_v (blkV (mvB (FD.mk (0) (0) ([]) ([]) ([])) (p) (x) (y) (X) (Y))) rfl rfl (y_ext rfl rfl rfl ⟨rfl, rfl⟩) ?_
        refine wl_v (.int .i64 (mvE (FD.mk (0) (0) ([]) ([]) ([])) (p) (x) (y) (X) (Y))) rfl rfl (y_ext rfl rfl rfl ⟨rfl, rfl⟩) ?_
        refine wl_alloc_blk rfl rfl rfl blkT_block.2.2 fun p325 w326 e329 B327 k328 => ?_
        have g330 := onB_new (Nat.le_of_eq e329.symm)
        have gr331 : Grew w0 noB (onB p325) := Grew.new K324 g330
        have ap332 : Apart (onB p325) (T_s) := Apart.new g330 (B317).live
        have ap333 : Apart (onB p325) (onB p1) := Apart.new g330 (onB_live (B318).lt)
        have ap334 : Apart (onB p325) (T58) := Apart.new g330 (B319).live
        have ap335 : Apart (onB p325) (T59) := Apart.new g330 (B320).live
        have ap336 : Apart (onB p325) (T60) := Apart.new g330 (B321).live
        have ap337 : Apart (onB p325) (onB p82) := Apart.new g330 (onB_live (B322).lt)
        have ap338 : Apart (onB p325) (onB p273) := Apart.new g330 (onB_live (B323).lt)
        clear e329 g330
        have B339 := B317.all k328 Apart.none
        have B340 := B318.all k328 id
        have B341 := B319.all k328 Apart.none
        have B342 := B320.all k328 Apart.none
        have B343 := B321.all k328 Apart.none
        have B344 := B322.all k328 id
        have B345 := B323.all k328 id
        have K346 := K324.trans k328 (fun _ _ x => x.elim)
        refine wl_store_blk blkT_block rfl rfl rfl rfl rfl B327 fun w347 B348 k349 => ?_
        have B350 := B339.all k349 (fun i h x => (((ap332).symm) i h x))
        have B351 := B340.all k349 (fun x => (((ap333).symm) p1 rfl x))
        have B352 := B341.all k349 (fun i h x => (((ap334).symm) i h x))
        have B353 := B342.all k349 (fun i h x => (((ap335).symm) i h x))
        have B354 := B343.all k349 (fun i h x => (((ap336).symm) i h x))
        have B355 := B344.all k349 (fun x => (((ap337).symm) p82 rfl x))
        have B356 := B345.all k349 (fun x => (((ap338).symm) p273 rfl x))
        have K357 := K346.trans k349 (Grew.ok (S := fun _ => False) gr331 noB_le)
        refine wl_v (.int .i64 (mvE (FD.mk (0) (0) ([]) ([]) ([])) (p) (x) (y) (X) (Y))) rfl rfl (y_asg rfl rfl ⟨rfl, rfl⟩) ?_
        refine wl_nil fun F358 hF359 => ?_
        have s360 : F358 18 = .bool (decide (-31 ≤ X ∧ X ≤ 31 ∧ -31 ≤ Y ∧ Y ≤ 31)) := (hF359 18).trans s305
        have s361 : F358 3 = .int .i64 (p) := (hF359 3).trans s306
        have s362 : F358 4 = .int .i64 (x) := (hF359 4).trans s307
        have s363 : F358 5 = .int .i64 (y) := (hF359 5).trans s308
        have s364 : F358 13 = .pointer (some ⟨p1, 0, none⟩) := (hF359 13).trans s309
        have s365 : F358 15 = .bool true := (hF359 15).trans s310
        have s366 : F358 16 = .pointer (some ⟨p82, 0, none⟩) := (hF359 16).trans s311
        have s367 : F358 17 = .bool (decide (0 ≤ p ∧ p ≤ 2 ∧ 0 ≤ x ∧ x ≤ 64 ∧ 0 ≤ y ∧ y ≤ 64)) := (hF359 17).trans s312
        have s368 : F358 152 = undef := (hF359 152).trans s313
        have s369 : F358 20 = .int .i64 (mvE (mkF (w) (h) (l)) (p) (x) (y) (X) (Y)) := (hF359 20).trans s314
        have s370 : F358 22 = .int .i64 (mvE (FD.mk (0) (0) ([]) ([]) ([])) (p) (x) (y) (X) (Y)) := (hF359 22).trans rfl
        clear hF359
        refine then_normal ?_
        refine wq_seq ?_
        refine wq_region ?_
        refine wl_v (.agg #[.int .i64 ((mkF (w) (h) (l)).W), .int .i64 ((mkF (w) (h) (l)).H), v53, v54, v55]) rfl rfl (y_load_stc stcT_frame rfl s366 B355 ⟨rfl, rfl⟩) ?_
        refine wl_v (.int .i64 (p)) rfl rfl (y_mov rfl s361 ⟨rfl, rfl⟩) ?_
        refine wl_v (.int .i64 (x)) rfl rfl (y_mov rfl s362 ⟨rfl, rfl⟩) ?_
        refine wl_v (.int .i64 (y)) rfl rfl (y_mov rfl s363 ⟨rfl, rfl⟩) ?_
        refine wl_v (blkV (fun _ => 0)) rfl rfl (y_buildR (cells := (arrL 16 (fun _ => 0)).toArray) rfl (by kernel_rfl) rfl ⟨rfl, rfl⟩) ?_
        refine wl_v (.agg #[.int .i64 (X), .int .i64 (Y)]) rfl rfl (y_load_stc stcT_vector rfl s364 B351 ⟨rfl, rfl⟩) ?_
        refine wl_call (R := fun v_ w_ => v_ = .tuple #[.agg #[.int .i64 ((srF (mkF (w) (h) (l)) (p) (x) (y) (fun _ => 0) (X) (Y)).X), .int .i64 ((srF (mkF (w) (h) (l)) (p) (x) (y) (fun _ => 0) (X) (Y)).Y)], .int .i64 ((srF (mkF (w) (h) (l)) (p) (x) (y) (fun _ => 0) (X) (Y)).n)] ∧ Kept (fun _ => False) w347 w_) rfl rfl (y_cs rfl rfl rfl (fun _ _ => by kernel_rfl) (ev_func _) (vsC rfl (vsC rfl (vsC rfl (vsC rfl (vsC rfl (vsC rfl vsN)))))) (mo_search (p) (x) (y) (X) (Y) (fun _ => 0) (mkF (w) (h) (l)) (v53) (v54) (v55) (T58) (T59) (T60) _  (B352).byt (B353).byt (B354).byt ) (fun e_ w_ h_ => ⟨_, h_.1, rfl, h_.2⟩)) ?_
        rintro _ w371 ⟨rfl, k372⟩
        have B373 := B350.all k372 Apart.none
        have B374 := B351.all k372 id
        have B375 := B352.all k372 Apart.none
        have B376 := B353.all k372 Apart.none
        have B377 := B354.all k372 Apart.none
        have B378 := B355.all k372 id
        have B379 := B356.all k372 id
        have B380 := B348.all k372 id
        have K381 := K357.trans k372 (fun _ _ x => x.elim)
        refine wl_v (.tuple #[.agg #[.int .i64 ((srF (mkF (w) (h) (l)) (p) (x) (y) (fun _ => 0) (X) (Y)).X), .int .i64 ((srF (mkF (w) (h) (l)) (p) (x) (y) (fun _ => 0) (X) (Y)).Y)], .int .i64 ((srF (mkF (w) (h) (l)) (p) (x) (y) (fun _ => 0) (X) (Y)).n)]) rfl rfl (y_mov rfl rfl ⟨rfl, rfl⟩) ?_
        refine wl_v (.agg #[.int .i64 ((srF (mkF (w) (h) (l)) (p) (x) (y) (fun _ => 0) (X) (Y)).X), .int .i64 ((srF (mkF (w) (h) (l)) (p) (x) (y) (fun _ => 0) (X) (Y)).Y)]) rfl rfl (y_ext rfl rfl rfl ⟨rfl, rfl⟩) ?_
        refine wl_v (.int .i64 ((srF (mkF (w) (h) (l)) (p) (x) (y) (fun _ => 0) (X) (Y)).n)) rfl rfl (y_ext rfl rfl rfl ⟨rfl, rfl⟩) ?_
        refine wl_alloc_stc (n := 2) (vs := [.int .i64 (0), .int .i64 (0)]) rfl rfl rfl (by kernel_rfl) fun p382 w383 B385 g386 k384 => ?_
        have gr387 : Grew w0 noB (onB p382) := Grew.new K381 g386
        have ap388 : Apart (onB p382) (T_s) := Apart.new g386 (B373).live
        have ap389 : Apart (onB p382) (onB p1) := Apart.new g386 (onB_live (B374).lt)
        have ap390 : Apart (onB p382) (T58) := Apart.new g386 (B375).live
        have ap391 : Apart (onB p382) (T59) := Apart.new g386 (B376).live
        have ap392 : Apart (onB p382) (T60) := Apart.new g386 (B377).live
        have ap393 : Apart (onB p382) (onB p82) := Apart.new g386 (onB_live (B378).lt)
        have ap394 : Apart (onB p382) (onB p273) := Apart.new g386 (onB_live (B379).lt)
        have ap395 : Apart (onB p382) (onB p325) := Apart.new g386 (onB_live (B380).lt)
        have B396 := B373.all k384 Apart.none
        have B397 := B374.all k384 id
        have B398 := B375.all k384 Apart.none
        have B399 := B376.all k384 Apart.none
        have B400 := B377.all k384 Apart.none
        have B401 := B378.all k384 id
        have B402 := B379.all k384 id
        have B403 := B380.all k384 id
        have K404 := K381.trans k384 (fun _ _ x => x.elim)
        refine wl_store_stc (us := [.int .i64 ((srF (mkF (w) (h) (l)) (p) (x) (y) (fun _ => 0) (X) (Y)).X), .int .i64 ((srF (mkF (w) (h) (l)) (p) (x) (y) (fun _ => 0) (X) (Y)).Y)]) stcT_vector rfl rfl rfl rfl rfl B385 rfl (oneI rfl (oneI rfl oneN)) fun w405 B406 k407 => ?_
        have B408 := B396.all k407 (fun i h x => (((ap388).symm) i h x))
        have B409 := B397.all k407 (fun x => (((ap389).symm) p1 rfl x))
        have B410 := B398.all k407 (fun i h x => (((ap390).symm) i h x))
        have B411 := B399.all k407 (fun i h x => (((ap391).symm) i h x))
        have B412 := B400.all k407 (fun i h x => (((ap392).symm) i h x))
        have B413 := B401.all k407 (fun x => (((ap393).symm) p82 rfl x))
        have B414 := B402.all k407 (fun x => (((ap394).symm) p273 rfl x))
        have B415 := B403.all k407 (fun x => (((ap395).symm) p325 rfl x))
        have K416 := K404.trans k407 (Grew.ok (S := fun _ => False) gr387 noB_le)
        refine wl_v (.int .i64 ((srF (mkF (w) (h) (l)) (p) (x) (y) (fun _ => 0) (X) (Y)).n)) rfl rfl (y_asg rfl rfl ⟨rfl, rfl⟩) ?_
        refine wl_nil fun F417 hF418 => ?_
        have s419 : F417 18 = .bool (decide (-31 ≤ X ∧ X ≤ 31 ∧ -31 ≤ Y ∧ Y ≤ 31)) := (hF418 18).trans s360
        have s420 : F417 13 = .pointer (some ⟨p1, 0, none⟩) := (hF418 13).trans s364
        have s421 : F417 15 = .bool true := (hF418 15).trans s365
        have s422 : F417 17 = .bool (decide (0 ≤ p ∧ p ≤ 2 ∧ 0 ≤ x ∧ x ≤ 64 ∧ 0 ≤ y ∧ y ≤ 64)) := (hF418 17).trans s367
        have s423 : F417 152 = undef := (hF418 152).trans s368
        have s424 : F417 20 = .int .i64 (mvE (mkF (w) (h) (l)) (p) (x) (y) (X) (Y)) := (hF418 20).trans s369
        have s425 : F417 22 = .int .i64 (mvE (FD.mk (0) (0) ([]) ([]) ([])) (p) (x) (y) (X) (Y)) := (hF418 22).trans s370
        have s426 : F417 24 = .int .i64 ((srF (mkF (w) (h) (l)) (p) (x) (y) (fun _ => 0) (X) (Y)).n) := (hF418 24).trans rfl
        clear hF418
        refine then_normal ?_
        refine wq_seq ?_
        refine wq_cut (fun FF ww => FF 25 = .bool (decide (-33 ≤ X ∧ X ≤ 33 ∧ -33 ≤ Y ∧ Y ≤ 33)) ∧ FF 13 = .pointer (some ⟨p1, 0, none⟩) ∧ FF 15 = .bool true ∧ FF 17 = .bool (decide (0 ≤ p ∧ p ≤ 2 ∧ 0 ≤ x ∧ x ≤ 64 ∧ 0 ≤ y ∧ y ≤ 64)) ∧ FF 18 = .bool (decide (-31 ≤ X ∧ X ≤ 31 ∧ -31 ≤ Y ∧ Y ≤ 31)) ∧ FF 20 = .int .i64 (mvE (mkF (w) (h) (l)) (p) (x) (y) (X) (Y)) ∧ FF 22 = .int .i64 (mvE (FD.mk (0) (0) ([]) ([]) ([])) (p) (x) (y) (X) (Y)) ∧ FF 24 = .int .i64 ((srF (mkF (w) (h) (l)) (p) (x) (y) (fun _ => 0) (X) (Y)).n) ∧ FF 152 = undef ∧ Kept (fun _ => False) w0 ww ∧ Byt ww (T_s) v (l) ∧ Stc ww p1 27 [.int .i64 (X), .int .i64 (Y)] ∧ Owb ww (T58) v53 ((mkF (w) (h) (l)).p0) ∧ Owb ww (T59) v54 ((mkF (w) (h) (l)).p1) ∧ Owb ww (T60) v55 ((mkF (w) (h) (l)).p2) ∧ Stc ww p82 25 [.int .i64 ((mkF (w) (h) (l)).W), .int .i64 ((mkF (w) (h) (l)).H), v53, v54, v55] ∧ Blk ww p273 31 (mvB (mkF (w) (h) (l)) (p) (x) (y) (X) (Y)) ∧ Blk ww p325 31 (mvB (FD.mk (0) (0) ([]) ([]) ([])) (p) (x) (y) (X) (Y)) ∧ Stc ww p382 27 [.int .i64 ((srF (mkF (w) (h) (l)) (p) (x) (y) (fun _ => 0) (X) (Y)).X), .int .i64 ((srF (mkF (w) (h) (l)) (p) (x) (y) (fun _ => 0) (X) (Y)).Y)]) ?_ ?_
        · skip
          by_cases d427 : (-33) ≤ (X)
          · skip
            by_cases d428 : (X) ≤ (33)
            · skip
              by_cases d429 : (-33) ≤ (Y)
              · skip
                refine wq_region ?_
                refine wl_v (.pointer (some ⟨p1, 0, none⟩)) rfl rfl (y_fieldR (n := 1) rfl s420 Try.underlying27 rfl (by kernel_rfl) (by decide) rfl ⟨rfl, rfl⟩) ?_
                refine wl_v (.int .i64 (X)) rfl rfl (y_ld_stc rfl rfl Try.underlying3 B409 rfl rfl ⟨rfl, rfl⟩) ?_
                refine wl_v (.bool true) rfl rfl (y_geq rfl rfl rfl (decide_eq_true d427) ⟨rfl, rfl⟩) ?_
                refine wl_v (.bool true) rfl rfl (y_mov rfl rfl ⟨rfl, rfl⟩) ?_
                refine wl_vw (.pointer (some ⟨p1, 0, none⟩)) 3 true 107 rfl rfl rfl rfl rfl (y_fieldR (n := 1) rfl s420 Try.underlying27 rfl (by kernel_rfl) (by decide) rfl ⟨rfl, rfl⟩) ?_
                refine wl_vw (.int .i64 (X)) 3 true 107 rfl rfl rfl rfl rfl (y_ld_stc rfl rfl Try.underlying3 B409 rfl rfl ⟨rfl, rfl⟩) ?_
                refine wl_vw (.bool true) 3 true 107 rfl rfl rfl rfl rfl (y_leq rfl rfl rfl (decide_eq_true d428) ⟨rfl, rfl⟩) ?_
                refine wl_v (.bool true) rfl rfl (y_pickT rfl rfl rfl ⟨rfl, rfl⟩) ?_
                refine wl_v (.bool true) rfl rfl (y_mov rfl rfl ⟨rfl, rfl⟩) ?_
                refine wl_vw (.pointer (some ⟨p1, 1, none⟩)) 8 true 112 rfl rfl rfl rfl rfl (y_fieldR (n := 1) rfl s420 Try.underlying27 rfl (by kernel_rfl) (by decide) rfl ⟨rfl, rfl⟩) ?_
                refine wl_vw (.int .i64 (Y)) 8 true 112 rfl rfl rfl rfl rfl (y_ld_stc rfl rfl Try.underlying3 B409 rfl rfl ⟨rfl, rfl⟩) ?_
                refine wl_vw (.bool true) 8 true 112 rfl rfl rfl rfl rfl (y_geq rfl rfl rfl (decide_eq_true d429) ⟨rfl, rfl⟩) ?_
                refine wl_v (.bool true) rfl rfl (y_pickT rfl rfl rfl ⟨rfl, rfl⟩) ?_
                refine wl_v (.bool true) rfl rfl (y_mov rfl rfl ⟨rfl, rfl⟩) ?_
                refine wl_vw (.pointer (some ⟨p1, 1, none⟩)) 13 true 117 rfl rfl rfl rfl rfl (y_fieldR (n := 1) rfl s420 Try.underlying27 rfl (by kernel_rfl) (by decide) rfl ⟨rfl, rfl⟩) ?_
                refine wl_vw (.int .i64 (Y)) 13 true 117 rfl rfl rfl rfl rfl (y_ld_stc rfl rfl Try.underlying3 B409 rfl rfl ⟨rfl, rfl⟩) ?_
                refine wl_vw (.bool (decide ((Y) ≤ (33)))) 13 true 117 rfl rfl rfl rfl rfl (y_leq rfl rfl rfl rfl ⟨rfl, rfl⟩) ?_
                refine wl_v (.bool (decide ((Y) ≤ (33)))) rfl rfl (y_pickT rfl rfl rfl ⟨rfl, rfl⟩) ?_
                refine wl_v (.bool (decide ((Y) ≤ (33)))) rfl rfl (y_asg rfl rfl ⟨rfl, rfl⟩) ?_
                refine wl_nil fun F430 hF431 => ?_
                have s432 : F430 18 = .bool (decide (-31 ≤ X ∧ X ≤ 31 ∧ -31 ≤ Y ∧ Y ≤ 31)) := (hF431 18).trans s419
                have s433 : F430 13 = .pointer (some ⟨p1, 0, none⟩) := (hF431 13).trans s420
                have s434 : F430 15 = .bool true := (hF431 15).trans s421
                have s435 : F430 17 = .bool (decide (0 ≤ p ∧ p ≤ 2 ∧ 0 ≤ x ∧ x ≤ 64 ∧ 0 ≤ y ∧ y ≤ 64)) := (hF431 17).trans s422
                have s436 : F430 152 = undef := (hF431 152).trans s423
                have s437 : F430 20 = .int .i64 (mvE (mkF (w) (h) (l)) (p) (x) (y) (X) (Y)) := (hF431 20).trans s424
                have s438 : F430 22 = .int .i64 (mvE (FD.mk (0) (0) ([]) ([]) ([])) (p) (x) (y) (X) (Y)) := (hF431 22).trans s425
                have s439 : F430 24 = .int .i64 ((srF (mkF (w) (h) (l)) (p) (x) (y) (fun _ => 0) (X) (Y)).n) := (hF431 24).trans s426
                have s440 : F430 25 = .bool (decide ((Y) ≤ (33))) := (hF431 25).trans rfl
                clear hF431
                exact ⟨s440.trans (congrArg Value.bool (show decide ((Y) ≤ (33)) = decide (-33 ≤ X ∧ X ≤ 33 ∧ -33 ≤ Y ∧ Y ≤ 33) from by first | exact (decide_eq_true (by omega)).symm | exact (decide_eq_false (by omega)).symm | exact decide_eq_decide.2 (by omega))), s433, s434, s435, s432, s437, s438, s439, s436, K416, B408, B409, B410, B411, B412, B413, B414, B415, B406⟩
              · skip
                refine wq_region ?_
                refine wl_v (.pointer (some ⟨p1, 0, none⟩)) rfl rfl (y_fieldR (n := 1) rfl s420 Try.underlying27 rfl (by kernel_rfl) (by decide) rfl ⟨rfl, rfl⟩) ?_
                refine wl_v (.int .i64 (X)) rfl rfl (y_ld_stc rfl rfl Try.underlying3 B409 rfl rfl ⟨rfl, rfl⟩) ?_
                refine wl_v (.bool true) rfl rfl (y_geq rfl rfl rfl (decide_eq_true d427) ⟨rfl, rfl⟩) ?_
                refine wl_v (.bool true) rfl rfl (y_mov rfl rfl ⟨rfl, rfl⟩) ?_
                refine wl_vw (.pointer (some ⟨p1, 0, none⟩)) 3 true 107 rfl rfl rfl rfl rfl (y_fieldR (n := 1) rfl s420 Try.underlying27 rfl (by kernel_rfl) (by decide) rfl ⟨rfl, rfl⟩) ?_
                refine wl_vw (.int .i64 (X)) 3 true 107 rfl rfl rfl rfl rfl (y_ld_stc rfl rfl Try.underlying3 B409 rfl rfl ⟨rfl, rfl⟩) ?_
                refine wl_vw (.bool true) 3 true 107 rfl rfl rfl rfl rfl (y_leq rfl rfl rfl (decide_eq_true d428) ⟨rfl, rfl⟩) ?_
                refine wl_v (.bool true) rfl rfl (y_pickT rfl rfl rfl ⟨rfl, rfl⟩) ?_
                refine wl_v (.bool true) rfl rfl (y_mov rfl rfl ⟨rfl, rfl⟩) ?_
                refine wl_vw (.pointer (some ⟨p1, 1, none⟩)) 8 true 112 rfl rfl rfl rfl rfl (y_fieldR (n := 1) rfl s420 Try.underlying27 rfl (by kernel_rfl) (by decide) rfl ⟨rfl, rfl⟩) ?_
                refine wl_vw (.int .i64 (Y)) 8 true 112 rfl rfl rfl rfl rfl (y_ld_stc rfl rfl Try.underlying3 B409 rfl rfl ⟨rfl, rfl⟩) ?_
                refine wl_vw (.bool false) 8 true 112 rfl rfl rfl rfl rfl (y_geq rfl rfl rfl (decide_eq_false d429) ⟨rfl, rfl⟩) ?_
                refine wl_v (.bool false) rfl rfl (y_pickT rfl rfl rfl ⟨rfl, rfl⟩) ?_
                refine wl_v (.bool false) rfl rfl (y_mov rfl rfl ⟨rfl, rfl⟩) ?_
                refine wl_unless 13 true 117 rfl rfl rfl (Or.inl rfl) rfl ?_
                refine wl_unless 13 true 117 rfl rfl rfl (Or.inl rfl) rfl ?_
                refine wl_unless 13 true 117 rfl rfl rfl (Or.inl rfl) rfl ?_
                refine wl_v (.bool false) rfl rfl (y_pickF rfl rfl rfl ⟨rfl, rfl⟩) ?_
                refine wl_v (.bool false) rfl rfl (y_asg rfl rfl ⟨rfl, rfl⟩) ?_
                refine wl_nil fun F441 hF442 => ?_
                have s443 : F441 18 = .bool (decide (-31 ≤ X ∧ X ≤ 31 ∧ -31 ≤ Y ∧ Y ≤ 31)) := (hF442 18).trans s419
                have s444 : F441 13 = .pointer (some ⟨p1, 0, none⟩) := (hF442 13).trans s420
                have s445 : F441 15 = .bool true := (hF442 15).trans s421
                have s446 : F441 17 = .bool (decide (0 ≤ p ∧ p ≤ 2 ∧ 0 ≤ x ∧ x ≤ 64 ∧ 0 ≤ y ∧ y ≤ 64)) := (hF442 17).trans s422
                have s447 : F441 152 = undef := (hF442 152).trans s423
                have s448 : F441 20 = .int .i64 (mvE (mkF (w) (h) (l)) (p) (x) (y) (X) (Y)) := (hF442 20).trans s424
                have s449 : F441 22 = .int .i64 (mvE (FD.mk (0) (0) ([]) ([]) ([])) (p) (x) (y) (X) (Y)) := (hF442 22).trans s425
                have s450 : F441 24 = .int .i64 ((srF (mkF (w) (h) (l)) (p) (x) (y) (fun _ => 0) (X) (Y)).n) := (hF442 24).trans s426
                have s451 : F441 25 = .bool false := (hF442 25).trans rfl
                clear hF442
                exact ⟨s451.trans (congrArg Value.bool (show false = decide (-33 ≤ X ∧ X ≤ 33 ∧ -33 ≤ Y ∧ Y ≤ 33) from by first | exact (decide_eq_true (by omega)).symm | exact (decide_eq_false (by omega)).symm | exact decide_eq_decide.2 (by omega))), s444, s445, s446, s443, s448, s449, s450, s447, K416, B408, B409, B410, B411, B412, B413, B414, B415, B406⟩
            · skip
              refine wq_region ?_
              refine wl_v (.pointer (some ⟨p1, 0, none⟩)) rfl rfl (y_fieldR (n := 1) rfl s420 Try.underlying27 rfl (by kernel_rfl) (by decide) rfl ⟨rfl, rfl⟩) ?_
              refine wl_v (.int .i64 (X)) rfl rfl (y_ld_stc rfl rfl Try.underlying3 B409 rfl rfl ⟨rfl, rfl⟩) ?_
              refine wl_v (.bool true) rfl rfl (y_geq rfl rfl rfl (decide_eq_true d427) ⟨rfl, rfl⟩) ?_
              refine wl_v (.bool true) rfl rfl (y_mov rfl rfl ⟨rfl, rfl⟩) ?_
              refine wl_vw (.pointer (some ⟨p1, 0, none⟩)) 3 true 107 rfl rfl rfl rfl rfl (y_fieldR (n := 1) rfl s420 Try.underlying27 rfl (by kernel_rfl) (by decide) rfl ⟨rfl, rfl⟩) ?_
              refine wl_vw (.int .i64 (X)) 3 true 107 rfl rfl rfl rfl rfl (y_ld_stc rfl rfl Try.underlying3 B409 rfl rfl ⟨rfl, rfl⟩) ?_
              refine wl_vw (.bool false) 3 true 107 rfl rfl rfl rfl rfl (y_leq rfl rfl rfl (decide_eq_false d428) ⟨rfl, rfl⟩) ?_
              refine wl_v (.bool false) rfl rfl (y_pickT rfl rfl rfl ⟨rfl, rfl⟩) ?_
              refine wl_v (.bool false) rfl rfl (y_mov rfl rfl ⟨rfl, rfl⟩) ?_
              refine wl_unless 8 true 112 rfl rfl rfl (Or.inl rfl) rfl ?_
              refine wl_unless 8 true 112 rfl rfl rfl (Or.inl rfl) rfl ?_
              refine wl_unless 8 true 112 rfl rfl rfl (Or.inl rfl) rfl ?_
              refine wl_v (.bool false) rfl rfl (y_pickF rfl rfl rfl ⟨rfl, rfl⟩) ?_
              refine wl_v (.bool false) rfl rfl (y_mov rfl rfl ⟨rfl, rfl⟩) ?_
              refine wl_unless 13 true 117 rfl rfl rfl (Or.inl rfl) rfl ?_
              refine wl_unless 13 true 117 rfl rfl rfl (Or.inl rfl) rfl ?_
              refine wl_unless 13 true 117 rfl rfl rfl (Or.inl rfl) rfl ?_
              refine wl_v (.bool false) rfl rfl (y_pickF rfl rfl rfl ⟨rfl, rfl⟩) ?_
              refine wl_v (.bool false) rfl rfl (y_asg rfl rfl ⟨rfl, rfl⟩) ?_
              refine wl_nil fun F452 hF453 => ?_
              have s454 : F452 18 = .bool (decide (-31 ≤ X ∧ X ≤ 31 ∧ -31 ≤ Y ∧ Y ≤ 31)) := (hF453 18).trans s419
              have s455 : F452 13 = .pointer (some ⟨p1, 0, none⟩) := (hF453 13).trans s420
              have s456 : F452 15 = .bool true := (hF453 15).trans s421
              have s457 : F452 17 = .bool (decide (0 ≤ p ∧ p ≤ 2 ∧ 0 ≤ x ∧ x ≤ 64 ∧ 0 ≤ y ∧ y ≤ 64)) := (hF453 17).trans s422
              have s458 : F452 152 = undef := (hF453 152).trans s423
              have s459 : F452 20 = .int .i64 (mvE (mkF (w) (h) (l)) (p) (x) (y) (X) (Y)) := (hF453 20).trans s424
              have s460 : F452 22 = .int .i64 (mvE (FD.mk (0) (0) ([]) ([]) ([])) (p) (x) (y) (X) (Y)) := (hF453 22).trans s425
              have s461 : F452 24 = .int .i64 ((srF (mkF (w) (h) (l)) (p) (x) (y) (fun _ => 0) (X) (Y)).n) := (hF453 24).trans s426
              have s462 : F452 25 = .bool false := (hF453 25).trans rfl
              clear hF453
              exact ⟨s462.trans (congrArg Value.bool (show false = decide (-33 ≤ X ∧ X ≤ 33 ∧ -33 ≤ Y ∧ Y ≤ 33) from by first | exact (decide_eq_true (by omega)).symm | exact (decide_eq_false (by omega)).symm | exact decide_eq_decide.2 (by omega))), s455, s456, s457, s454, s459, s460, s461, s458, K416, B408, B409, B410, B411, B412, B413, B414, B415, B406⟩
          · skip
            refine wq_region ?_
            refine wl_v (.pointer (some ⟨p1, 0, none⟩)) rfl rfl (y_fieldR (n := 1) rfl s420 Try.underlying27 rfl (by kernel_rfl) (by decide) rfl ⟨rfl, rfl⟩) ?_
            refine wl_v (.int .i64 (X)) rfl rfl (y_ld_stc rfl rfl Try.underlying3 B409 rfl rfl ⟨rfl, rfl⟩) ?_
            refine wl_v (.bool false) rfl rfl (y_geq rfl rfl rfl (decide_eq_false d427) ⟨rfl, rfl⟩) ?_
            refine wl_v (.bool false) rfl rfl (y_mov rfl rfl ⟨rfl, rfl⟩) ?_
            refine wl_unless 3 true 107 rfl rfl rfl (Or.inl rfl) rfl ?_
            refine wl_unless 3 true 107 rfl rfl rfl (Or.inl rfl) rfl ?_
            refine wl_unless 3 true 107 rfl rfl rfl (Or.inl rfl) rfl ?_
            refine wl_v (.bool false) rfl rfl (y_pickF rfl rfl rfl ⟨rfl, rfl⟩) ?_
            refine wl_v (.bool false) rfl rfl (y_mov rfl rfl ⟨rfl, rfl⟩) ?_
            refine wl_unless 8 true 112 rfl rfl rfl (Or.inl rfl) rfl ?_
            refine wl_unless 8 true 112 rfl rfl rfl (Or.inl rfl) rfl ?_
            refine wl_unless 8 true 112 rfl rfl rfl (Or.inl rfl) rfl ?_
            refine wl_v (.bool false) rfl rfl (y_pickF rfl rfl rfl ⟨rfl, rfl⟩) ?_
            refine wl_v (.bool false) rfl rfl (y_mov rfl rfl ⟨rfl, rfl⟩) ?_
            refine wl_unless 13 true 117 rfl rfl rfl (Or.inl rfl) rfl ?_
            refine wl_unless 13 true 117 rfl rfl rfl (Or.inl rfl) rfl ?_
            refine wl_unless 13 true 117 rfl rfl rfl (Or.inl rfl) rfl ?_
            refine wl_v (.bool false) rfl rfl (y_pickF rfl rfl rfl ⟨rfl, rfl⟩) ?_
            refine wl_v (.bool false) rfl rfl (y_asg rfl rfl ⟨rfl, rfl⟩) ?_
            refine wl_nil fun F463 hF464 => ?_
            have s465 : F463 18 = .bool (decide (-31 ≤ X ∧ X ≤ 31 ∧ -31 ≤ Y ∧ Y ≤ 31)) := (hF464 18).trans s419
            have s466 : F463 13 = .pointer (some ⟨p1, 0, none⟩) := (hF464 13).trans s420
            have s467 : F463 15 = .bool true := (hF464 15).trans s421
            have s468 : F463 17 = .bool (decide (0 ≤ p ∧ p ≤ 2 ∧ 0 ≤ x ∧ x ≤ 64 ∧ 0 ≤ y ∧ y ≤ 64)) := (hF464 17).trans s422
            have s469 : F463 152 = undef := (hF464 152).trans s423
            have s470 : F463 20 = .int .i64 (mvE (mkF (w) (h) (l)) (p) (x) (y) (X) (Y)) := (hF464 20).trans s424
            have s471 : F463 22 = .int .i64 (mvE (FD.mk (0) (0) ([]) ([]) ([])) (p) (x) (y) (X) (Y)) := (hF464 22).trans s425
            have s472 : F463 24 = .int .i64 ((srF (mkF (w) (h) (l)) (p) (x) (y) (fun _ => 0) (X) (Y)).n) := (hF464 24).trans s426
            have s473 : F463 25 = .bool false := (hF464 25).trans rfl
            clear hF464
            exact ⟨s473.trans (congrArg Value.bool (show false = decide (-33 ≤ X ∧ X ≤ 33 ∧ -33 ≤ Y ∧ Y ≤ 33) from by first | exact (decide_eq_true (by omega)).symm | exact (decide_eq_false (by omega)).symm | exact decide_eq_decide.2 (by omega))), s466, s467, s468, s465, s470, s471, s472, s469, K416, B408, B409, B410, B411, B412, B413, B414, B415, B406⟩
        · rintro F474 w475 ⟨s477, s478, s479, s480, s481, s482, s483, s484, s485, K476, B486, B487, B488, B489, B490, B491, B492, B493, B494⟩
          refine then_normal ?_
          refine wq_seq ?_
          refine wq_region ?_
          refine wl_v (.int .i64 (0)) rfl rfl (y_asg rfl rfl ⟨rfl, rfl⟩) ?_
          refine wl_nil fun F495 hF496 => ?_
          have s497 : F495 25 = .bool (decide (-33 ≤ X ∧ X ≤ 33 ∧ -33 ≤ Y ∧ Y ≤ 33)) := (hF496 25).trans s477
          have s498 : F495 13 = .pointer (some ⟨p1, 0, none⟩) := (hF496 13).trans s478
          have s499 : F495 15 = .bool true := (hF496 15).trans s479
          have s500 : F495 17 = .bool (decide (0 ≤ p ∧ p ≤ 2 ∧ 0 ≤ x ∧ x ≤ 64 ∧ 0 ≤ y ∧ y ≤ 64)) := (hF496 17).trans s480
          have s501 : F495 18 = .bool (decide (-31 ≤ X ∧ X ≤ 31 ∧ -31 ≤ Y ∧ Y ≤ 31)) := (hF496 18).trans s481
          have s502 : F495 20 = .int .i64 (mvE (mkF (w) (h) (l)) (p) (x) (y) (X) (Y)) := (hF496 20).trans s482
          have s503 : F495 22 = .int .i64 (mvE (FD.mk (0) (0) ([]) ([]) ([])) (p) (x) (y) (X) (Y)) := (hF496 22).trans s483
          have s504 : F495 24 = .int .i64 ((srF (mkF (w) (h) (l)) (p) (x) (y) (fun _ => 0) (X) (Y)).n) := (hF496 24).trans s484
          have s505 : F495 152 = undef := (hF496 152).trans s485
          have s506 : F495 26 = .int .i64 (0) := (hF496 26).trans rfl
          clear hF496
          refine then_normal ?_
          refine wq_seq ?_
          refine wq_seq ?_
          by_cases d507 : 0 ≤ p ∧ p ≤ 2 ∧ 0 ≤ x ∧ x ≤ 64 ∧ 0 ≤ y ∧ y ≤ 64
          · skip
            refine wq_region ?_
            refine wl_v (.bool true) rfl rfl (y_mov rfl (Eq.trans s500 (congrArg Value.bool (decide_eq_true d507))) ⟨rfl, rfl⟩) ?_
            refine wl_v (.bool false) rfl rfl (y_not rfl rfl rfl ⟨rfl, rfl⟩) ?_
            refine wl_nil fun F508 hF509 => ?_
            have s510 : F508 25 = .bool (decide (-33 ≤ X ∧ X ≤ 33 ∧ -33 ≤ Y ∧ Y ≤ 33)) := (hF509 25).trans s497
            have s511 : F508 13 = .pointer (some ⟨p1, 0, none⟩) := (hF509 13).trans s498
            have s512 : F508 15 = .bool true := (hF509 15).trans s499
            have s513 : F508 17 = .bool (decide (0 ≤ p ∧ p ≤ 2 ∧ 0 ≤ x ∧ x ≤ 64 ∧ 0 ≤ y ∧ y ≤ 64)) := (hF509 17).trans s500
            have s514 : F508 18 = .bool (decide (-31 ≤ X ∧ X ≤ 31 ∧ -31 ≤ Y ∧ Y ≤ 31)) := (hF509 18).trans s501
            have s515 : F508 20 = .int .i64 (mvE (mkF (w) (h) (l)) (p) (x) (y) (X) (Y)) := (hF509 20).trans s502
            have s516 : F508 22 = .int .i64 (mvE (FD.mk (0) (0) ([]) ([]) ([])) (p) (x) (y) (X) (Y)) := (hF509 22).trans s503
            have s517 : F508 24 = .int .i64 ((srF (mkF (w) (h) (l)) (p) (x) (y) (fun _ => 0) (X) (Y)).n) := (hF509 24).trans s504
            have s518 : F508 152 = undef := (hF509 152).trans s505
            have s519 : F508 26 = .int .i64 (0) := (hF509 26).trans s506
            have s520 : F508 123 = .bool false := (hF509 123).trans rfl
            clear hF509
            refine then_normal ?_
            refine wq_cond (t := false) s520 (fun e => by cases e) (fun _ => ?_)
            refine wq_seq ?_
            by_cases d521 : -31 ≤ X ∧ X ≤ 31 ∧ -31 ≤ Y ∧ Y ≤ 31
            · skip
              refine wq_region ?_
              refine wl_v (.bool true) rfl rfl (y_mov rfl (Eq.trans s514 (congrArg Value.bool (decide_eq_true d521))) ⟨rfl, rfl⟩) ?_
              refine wl_v (.bool false) rfl rfl (y_not rfl rfl rfl ⟨rfl, rfl⟩) ?_
              refine wl_nil fun F522 hF523 => ?_
              have s524 : F522 25 = .bool (decide (-33 ≤ X ∧ X ≤ 33 ∧ -33 ≤ Y ∧ Y ≤ 33)) := (hF523 25).trans s510
              have s525 : F522 13 = .pointer (some ⟨p1, 0, none⟩) := (hF523 13).trans s511
              have s526 : F522 15 = .bool true := (hF523 15).trans s512
              have s527 : F522 17 = .bool (decide (0 ≤ p ∧ p ≤ 2 ∧ 0 ≤ x ∧ x ≤ 64 ∧ 0 ≤ y ∧ y ≤ 64)) := (hF523 17).trans s513
              have s528 : F522 18 = .bool (decide (-31 ≤ X ∧ X ≤ 31 ∧ -31 ≤ Y ∧ Y ≤ 31)) := (hF523 18).trans s514
              have s529 : F522 20 = .int .i64 (mvE (mkF (w) (h) (l)) (p) (x) (y) (X) (Y)) := (hF523 20).trans s515
              have s530 : F522 22 = .int .i64 (mvE (FD.mk (0) (0) ([]) ([]) ([])) (p) (x) (y) (X) (Y)) := (hF523 22).trans s516
              have s531 : F522 24 = .int .i64 ((srF (mkF (w) (h) (l)) (p) (x) (y) (fun _ => 0) (X) (Y)).n) := (hF523 24).trans s517
              have s532 : F522 152 = undef := (hF523 152).trans s518
              have s533 : F522 26 = .int .i64 (0) := (hF523 26).trans s519
              have s534 : F522 125 = .bool false := (hF523 125).trans rfl
              clear hF523
              refine then_normal ?_
              refine wq_cond (t := false) s534 (fun e => by cases e) (fun _ => ?_)
              refine wq_skip ?_
              refine then_normal ?_
              refine wq_seq ?_
              by_cases d535 : -33 ≤ X ∧ X ≤ 33 ∧ -33 ≤ Y ∧ Y ≤ 33
              · skip
                refine wq_region ?_
                refine wl_v (.bool true) rfl rfl (y_mov rfl s526 ⟨rfl, rfl⟩) ?_
                refine wl_v (.bool true) rfl rfl (y_mov rfl rfl ⟨rfl, rfl⟩) ?_
                refine wl_vw (.int .i64 (mvE (mkF (w) (h) (l)) (p) (x) (y) (X) (Y))) 1 true 127 rfl rfl rfl rfl rfl (y_mov rfl s529 ⟨rfl, rfl⟩) ?_
                refine wl_vw (.int .i64 (0)) 1 true 127 rfl rfl rfl rfl rfl (y_mov rfl s533 ⟨rfl, rfl⟩) ?_
                refine wl_vw (.bool true) 1 true 127 rfl rfl rfl rfl rfl (y_eqlI rfl rfl rfl (decide_eq_true (by first | exact (mv_no (by rintro ⟨_, h1, h2, h3, h4, h5, h6⟩; omega)).1 | exact (mv_none ⟨mkF_ok w h l, by omega, by omega, by omega, by omega, by omega, by omega⟩ (by rintro ⟨h1, h2, h3, h4⟩; omega)).1 | exact (mv_yes ⟨mkF_ok w h l, by omega, by omega, by omega, by omega, by omega, by omega⟩ ⟨by omega, by omega, by omega, by omega⟩).1)) ⟨rfl, rfl⟩) ?_
                refine wl_v (.bool true) rfl rfl (y_pickT rfl rfl rfl ⟨rfl, rfl⟩) ?_
                refine wl_v (.bool true) rfl rfl (y_mov rfl rfl ⟨rfl, rfl⟩) ?_
                refine wl_vw (.int .i64 (mvE (FD.mk (0) (0) ([]) ([]) ([])) (p) (x) (y) (X) (Y))) 6 true 132 rfl rfl rfl rfl rfl (y_mov rfl s530 ⟨rfl, rfl⟩) ?_
                refine wl_vw (.bool true) 6 true 132 rfl rfl rfl rfl rfl (y_eqlI rfl rfl rfl (decide_eq_true (mv_no (none_place _ _ _)).1) ⟨rfl, rfl⟩) ?_
                refine wl_v (.bool true) rfl rfl (y_pickT rfl rfl rfl ⟨rfl, rfl⟩) ?_
                refine wl_v (.bool true) rfl rfl (y_mov rfl rfl ⟨rfl, rfl⟩) ?_
                refine wl_vw (.int .i64 ((srF (mkF (w) (h) (l)) (p) (x) (y) (fun _ => 0) (X) (Y)).n)) 10 true 136 rfl rfl rfl rfl rfl (y_mov rfl s531 ⟨rfl, rfl⟩) ?_
                refine wl_vw (.bool (decide ((0) ≤ ((srF (mkF (w) (h) (l)) (p) (x) (y) (fun _ => 0) (X) (Y)).n)))) 10 true 136 rfl rfl rfl rfl rfl (y_geq rfl rfl rfl rfl ⟨rfl, rfl⟩) ?_
                refine wl_vw (.bool true) 10 true 136 rfl rfl rfl rfl rfl (y_mov rfl (Eq.trans s527 (congrArg Value.bool (decide_eq_true d507))) ⟨rfl, rfl⟩) ?_
                refine wl_vw (.bool true) 10 true 136 rfl rfl rfl rfl rfl (y_mov rfl rfl ⟨rfl, rfl⟩) ?_
                refine wl_vw (.bool true) 14 true 140 rfl rfl rfl rfl rfl (y_mov rfl (Eq.trans s524 (congrArg Value.bool (decide_eq_true d535))) ⟨rfl, rfl⟩) ?_
                refine wl_vw (.bool true) 10 true 136 rfl rfl rfl rfl rfl (y_pickT rfl rfl rfl ⟨rfl, rfl⟩) ?_
                refine wl_vw (.bool true) 10 true 136 rfl rfl rfl rfl rfl (y_eqlB rfl rfl rfl Try.underlying4 ((by first | (rw [decide_eq_true ((sr_sign _ _ _ _ _ _ _).1 ⟨⟨mkF_ok w h l, by omega, by omega, by omega, by omega, by omega, by omega⟩, ⟨by omega, by omega, by omega, by omega⟩⟩)]; rfl) | (rw [decide_eq_false ((sr_sign _ _ _ _ _ _ _).2 (by rintro ⟨⟨_, h1, h2, h3, h4, h5, h6⟩, ⟨h7, h8, h9, h10⟩⟩; omega))]; rfl))) ⟨rfl, rfl⟩) ?_
                refine wl_v (.bool true) rfl rfl (y_pickT rfl rfl rfl ⟨rfl, rfl⟩) ?_
                refine wl_v (.bool true) rfl rfl (y_mov rfl rfl ⟨rfl, rfl⟩) ?_
                refine wl_vw (.agg #[.int .i64 (X), .int .i64 (Y)]) 19 true 145 rfl rfl rfl rfl rfl (y_load_stc stcT_vector rfl s525 B487 ⟨rfl, rfl⟩) ?_
                refine wl_callw (R := fun v_ w_ => v_ = .int .i64 (vecE (X) (Y)) ∧ Kept (fun _ => False) w475 w_) 19 true 145 rfl rfl rfl rfl rfl (y_cs rfl rfl rfl (fun _ _ => by kernel_rfl) (ev_func _) (vsC rfl vsN) (mo_check (X) (Y)  _   ) (fun e_ w_ h_ => ⟨_, h_.1, rfl, h_.2⟩)) ?_
                rintro _ w536 ⟨rfl, k537⟩
                have B538 := B486.all k537 Apart.none
                have B539 := B487.all k537 id
                have B540 := B488.all k537 Apart.none
                have B541 := B489.all k537 Apart.none
                have B542 := B490.all k537 Apart.none
                have B543 := B491.all k537 id
                have B544 := B492.all k537 id
                have B545 := B493.all k537 id
                have B546 := B494.all k537 id
                have K547 := K476.trans k537 (fun _ _ x => x.elim)
                refine wl_vw (.bool (decide ((vecE (X) (Y)) = (0)))) 19 true 145 rfl rfl rfl rfl rfl (y_eqlI rfl rfl rfl rfl ⟨rfl, rfl⟩) ?_
                refine wl_vw (.bool true) 19 true 145 rfl rfl rfl rfl rfl (y_mov rfl (Eq.trans s528 (congrArg Value.bool (decide_eq_true d521))) ⟨rfl, rfl⟩) ?_
                refine wl_vw (.bool true) 19 true 145 rfl rfl rfl rfl rfl (y_eqlB rfl rfl rfl Try.underlying4 ((by first | (rw [decide_eq_true (vecE_yes (X := X) (Y := Y) ⟨by omega, by omega, by omega, by omega⟩)]; rfl) | (rw [decide_eq_false (fun z => absurd ((vecE_iff X Y).1 z) (by rintro ⟨h1, h2, h3, h4⟩; omega))]; rfl))) ⟨rfl, rfl⟩) ?_
                refine wl_v (.bool true) rfl rfl (y_pickT rfl rfl rfl ⟨rfl, rfl⟩) ?_
                refine wl_v (.bool true) rfl rfl (y_asg rfl rfl ⟨rfl, rfl⟩) ?_
                refine wl_nil fun F548 hF549 => ?_
                have s550 : F548 152 = undef := (hF549 152).trans s532
                have s551 : F548 14 = .bool true := (hF549 14).trans rfl
                clear hF549
                refine then_normal ?_
                refine wq_ret ?_
                exact end_tmp (v := .bool true) s550 rfl rfl s551 ⟨rfl, K547⟩
              · skip
                refine wq_region ?_
                refine wl_v (.bool true) rfl rfl (y_mov rfl s526 ⟨rfl, rfl⟩) ?_
                refine wl_v (.bool true) rfl rfl (y_mov rfl rfl ⟨rfl, rfl⟩) ?_
                refine wl_vw (.int .i64 (mvE (mkF (w) (h) (l)) (p) (x) (y) (X) (Y))) 1 true 127 rfl rfl rfl rfl rfl (y_mov rfl s529 ⟨rfl, rfl⟩) ?_
                refine wl_vw (.int .i64 (0)) 1 true 127 rfl rfl rfl rfl rfl (y_mov rfl s533 ⟨rfl, rfl⟩) ?_
                refine wl_vw (.bool true) 1 true 127 rfl rfl rfl rfl rfl (y_eqlI rfl rfl rfl (decide_eq_true (by first | exact (mv_no (by rintro ⟨_, h1, h2, h3, h4, h5, h6⟩; omega)).1 | exact (mv_none ⟨mkF_ok w h l, by omega, by omega, by omega, by omega, by omega, by omega⟩ (by rintro ⟨h1, h2, h3, h4⟩; omega)).1 | exact (mv_yes ⟨mkF_ok w h l, by omega, by omega, by omega, by omega, by omega, by omega⟩ ⟨by omega, by omega, by omega, by omega⟩).1)) ⟨rfl, rfl⟩) ?_
                refine wl_v (.bool true) rfl rfl (y_pickT rfl rfl rfl ⟨rfl, rfl⟩) ?_
                refine wl_v (.bool true) rfl rfl (y_mov rfl rfl ⟨rfl, rfl⟩) ?_
                refine wl_vw (.int .i64 (mvE (FD.mk (0) (0) ([]) ([]) ([])) (p) (x) (y) (X) (Y))) 6 true 132 rfl rfl rfl rfl rfl (y_mov rfl s530 ⟨rfl, rfl⟩) ?_
                refine wl_vw (.bool true) 6 true 132 rfl rfl rfl rfl rfl (y_eqlI rfl rfl rfl (decide_eq_true (mv_no (none_place _ _ _)).1) ⟨rfl, rfl⟩) ?_
                refine wl_v (.bool true) rfl rfl (y_pickT rfl rfl rfl ⟨rfl, rfl⟩) ?_
                refine wl_v (.bool true) rfl rfl (y_mov rfl rfl ⟨rfl, rfl⟩) ?_
                refine wl_vw (.int .i64 ((srF (mkF (w) (h) (l)) (p) (x) (y) (fun _ => 0) (X) (Y)).n)) 10 true 136 rfl rfl rfl rfl rfl (y_mov rfl s531 ⟨rfl, rfl⟩) ?_
                refine wl_vw (.bool (decide ((0) ≤ ((srF (mkF (w) (h) (l)) (p) (x) (y) (fun _ => 0) (X) (Y)).n)))) 10 true 136 rfl rfl rfl rfl rfl (y_geq rfl rfl rfl rfl ⟨rfl, rfl⟩) ?_
                refine wl_vw (.bool true) 10 true 136 rfl rfl rfl rfl rfl (y_mov rfl (Eq.trans s527 (congrArg Value.bool (decide_eq_true d507))) ⟨rfl, rfl⟩) ?_
                refine wl_vw (.bool true) 10 true 136 rfl rfl rfl rfl rfl (y_mov rfl rfl ⟨rfl, rfl⟩) ?_
                refine wl_vw (.bool false) 14 true 140 rfl rfl rfl rfl rfl (y_mov rfl (Eq.trans s524 (congrArg Value.bool (decide_eq_false d535))) ⟨rfl, rfl⟩) ?_
                refine wl_vw (.bool false) 10 true 136 rfl rfl rfl rfl rfl (y_pickT rfl rfl rfl ⟨rfl, rfl⟩) ?_
                refine wl_vw (.bool true) 10 true 136 rfl rfl rfl rfl rfl (y_eqlB rfl rfl rfl Try.underlying4 ((by first | (rw [decide_eq_true ((sr_sign _ _ _ _ _ _ _).1 ⟨⟨mkF_ok w h l, by omega, by omega, by omega, by omega, by omega, by omega⟩, ⟨by omega, by omega, by omega, by omega⟩⟩)]; rfl) | (rw [decide_eq_false ((sr_sign _ _ _ _ _ _ _).2 (by rintro ⟨⟨_, h1, h2, h3, h4, h5, h6⟩, ⟨h7, h8, h9, h10⟩⟩; omega))]; rfl))) ⟨rfl, rfl⟩) ?_
                refine wl_v (.bool true) rfl rfl (y_pickT rfl rfl rfl ⟨rfl, rfl⟩) ?_
                refine wl_v (.bool true) rfl rfl (y_mov rfl rfl ⟨rfl, rfl⟩) ?_
                refine wl_vw (.agg #[.int .i64 (X), .int .i64 (Y)]) 19 true 145 rfl rfl rfl rfl rfl (y_load_stc stcT_vector rfl s525 B487 ⟨rfl, rfl⟩) ?_
                refine wl_callw (R := fun v_ w_ => v_ = .int .i64 (vecE (X) (Y)) ∧ Kept (fun _ => False) w475 w_) 19 true 145 rfl rfl rfl rfl rfl (y_cs rfl rfl rfl (fun _ _ => by kernel_rfl) (ev_func _) (vsC rfl vsN) (mo_check (X) (Y)  _   ) (fun e_ w_ h_ => ⟨_, h_.1, rfl, h_.2⟩)) ?_
                rintro _ w552 ⟨rfl, k553⟩
                have B554 := B486.all k553 Apart.none
                have B555 := B487.all k553 id
                have B556 := B488.all k553 Apart.none
                have B557 := B489.all k553 Apart.none
                have B558 := B490.all k553 Apart.none
                have B559 := B491.all k553 id
                have B560 := B492.all k553 id
                have B561 := B493.all k553 id
                have B562 := B494.all k553 id
                have K563 := K476.trans k553 (fun _ _ x => x.elim)
                refine wl_vw (.bool (decide ((vecE (X) (Y)) = (0)))) 19 true 145 rfl rfl rfl rfl rfl (y_eqlI rfl rfl rfl rfl ⟨rfl, rfl⟩) ?_
                refine wl_vw (.bool true) 19 true 145 rfl rfl rfl rfl rfl (y_mov rfl (Eq.trans s528 (congrArg Value.bool (decide_eq_true d521))) ⟨rfl, rfl⟩) ?_
                refine wl_vw (.bool true) 19 true 145 rfl rfl rfl rfl rfl (y_eqlB rfl rfl rfl Try.underlying4 ((by first | (rw [decide_eq_true (vecE_yes (X := X) (Y := Y) ⟨by omega, by omega, by omega, by omega⟩)]; rfl) | (rw [decide_eq_false (fun z => absurd ((vecE_iff X Y).1 z) (by rintro ⟨h1, h2, h3, h4⟩; omega))]; rfl))) ⟨rfl, rfl⟩) ?_
                refine wl_v (.bool true) rfl rfl (y_pickT rfl rfl rfl ⟨rfl, rfl⟩) ?_
                refine wl_v (.bool true) rfl rfl (y_asg rfl rfl ⟨rfl, rfl⟩) ?_
                refine wl_nil fun F564 hF565 => ?_
                have s566 : F564 152 = undef := (hF565 152).trans s532
                have s567 : F564 14 = .bool true := (hF565 14).trans rfl
                clear hF565
                refine then_normal ?_
                refine wq_ret ?_
                exact end_tmp (v := .bool true) s566 rfl rfl s567 ⟨rfl, K563⟩
            · skip
              refine wq_region ?_
              refine wl_v (.bool false) rfl rfl (y_mov rfl (Eq.trans s514 (congrArg Value.bool (decide_eq_false d521))) ⟨rfl, rfl⟩) ?_
              refine wl_v (.bool true) rfl rfl (y_not rfl rfl rfl ⟨rfl, rfl⟩) ?_
              refine wl_nil fun F568 hF569 => ?_
              have s570 : F568 25 = .bool (decide (-33 ≤ X ∧ X ≤ 33 ∧ -33 ≤ Y ∧ Y ≤ 33)) := (hF569 25).trans s510
              have s571 : F568 13 = .pointer (some ⟨p1, 0, none⟩) := (hF569 13).trans s511
              have s572 : F568 15 = .bool true := (hF569 15).trans s512
              have s573 : F568 17 = .bool (decide (0 ≤ p ∧ p ≤ 2 ∧ 0 ≤ x ∧ x ≤ 64 ∧ 0 ≤ y ∧ y ≤ 64)) := (hF569 17).trans s513
              have s574 : F568 18 = .bool (decide (-31 ≤ X ∧ X ≤ 31 ∧ -31 ≤ Y ∧ Y ≤ 31)) := (hF569 18).trans s514
              have s575 : F568 20 = .int .i64 (mvE (mkF (w) (h) (l)) (p) (x) (y) (X) (Y)) := (hF569 20).trans s515
              have s576 : F568 22 = .int .i64 (mvE (FD.mk (0) (0) ([]) ([]) ([])) (p) (x) (y) (X) (Y)) := (hF569 22).trans s516
              have s577 : F568 24 = .int .i64 ((srF (mkF (w) (h) (l)) (p) (x) (y) (fun _ => 0) (X) (Y)).n) := (hF569 24).trans s517
              have s578 : F568 152 = undef := (hF569 152).trans s518
              have s579 : F568 26 = .int .i64 (0) := (hF569 26).trans s519
              have s580 : F568 125 = .bool true := (hF569 125).trans rfl
              clear hF569
              refine then_normal ?_
              refine wq_cond (t := true) s580 (fun _ => ?_) (fun e => by cases e)
              refine wq_region ?_
              refine wl_v (.int .i64 (90)) rfl rfl (y_asg rfl rfl ⟨rfl, rfl⟩) ?_
              refine wl_nil fun F581 hF582 => ?_
              have s583 : F581 25 = .bool (decide (-33 ≤ X ∧ X ≤ 33 ∧ -33 ≤ Y ∧ Y ≤ 33)) := (hF582 25).trans s570
              have s584 : F581 13 = .pointer (some ⟨p1, 0, none⟩) := (hF582 13).trans s571
              have s585 : F581 15 = .bool true := (hF582 15).trans s572
              have s586 : F581 17 = .bool (decide (0 ≤ p ∧ p ≤ 2 ∧ 0 ≤ x ∧ x ≤ 64 ∧ 0 ≤ y ∧ y ≤ 64)) := (hF582 17).trans s573
              have s587 : F581 18 = .bool (decide (-31 ≤ X ∧ X ≤ 31 ∧ -31 ≤ Y ∧ Y ≤ 31)) := (hF582 18).trans s574
              have s588 : F581 20 = .int .i64 (mvE (mkF (w) (h) (l)) (p) (x) (y) (X) (Y)) := (hF582 20).trans s575
              have s589 : F581 22 = .int .i64 (mvE (FD.mk (0) (0) ([]) ([]) ([])) (p) (x) (y) (X) (Y)) := (hF582 22).trans s576
              have s590 : F581 24 = .int .i64 ((srF (mkF (w) (h) (l)) (p) (x) (y) (fun _ => 0) (X) (Y)).n) := (hF582 24).trans s577
              have s591 : F581 152 = undef := (hF582 152).trans s578
              have s592 : F581 26 = .int .i64 (90) := (hF582 26).trans rfl
              clear hF582
              refine then_normal ?_
              refine wq_seq ?_
              by_cases d593 : -33 ≤ X ∧ X ≤ 33 ∧ -33 ≤ Y ∧ Y ≤ 33
              · skip
                refine wq_region ?_
                refine wl_v (.bool true) rfl rfl (y_mov rfl s585 ⟨rfl, rfl⟩) ?_
                refine wl_v (.bool true) rfl rfl (y_mov rfl rfl ⟨rfl, rfl⟩) ?_
                refine wl_vw (.int .i64 (mvE (mkF (w) (h) (l)) (p) (x) (y) (X) (Y))) 1 true 127 rfl rfl rfl rfl rfl (y_mov rfl s588 ⟨rfl, rfl⟩) ?_
                refine wl_vw (.int .i64 (90)) 1 true 127 rfl rfl rfl rfl rfl (y_mov rfl s592 ⟨rfl, rfl⟩) ?_
                refine wl_vw (.bool true) 1 true 127 rfl rfl rfl rfl rfl (y_eqlI rfl rfl rfl (decide_eq_true (by first | exact (mv_no (by rintro ⟨_, h1, h2, h3, h4, h5, h6⟩; omega)).1 | exact (mv_none ⟨mkF_ok w h l, by omega, by omega, by omega, by omega, by omega, by omega⟩ (by rintro ⟨h1, h2, h3, h4⟩; omega)).1 | exact (mv_yes ⟨mkF_ok w h l, by omega, by omega, by omega, by omega, by omega, by omega⟩ ⟨by omega, by omega, by omega, by omega⟩).1)) ⟨rfl, rfl⟩) ?_
                refine wl_v (.bool true) rfl rfl (y_pickT rfl rfl rfl ⟨rfl, rfl⟩) ?_
                refine wl_v (.bool true) rfl rfl (y_mov rfl rfl ⟨rfl, rfl⟩) ?_
                refine wl_vw (.int .i64 (mvE (FD.mk (0) (0) ([]) ([]) ([])) (p) (x) (y) (X) (Y))) 6 true 132 rfl rfl rfl rfl rfl (y_mov rfl s589 ⟨rfl, rfl⟩) ?_
                refine wl_vw (.bool true) 6 true 132 rfl rfl rfl rfl rfl (y_eqlI rfl rfl rfl (decide_eq_true (mv_no (none_place _ _ _)).1) ⟨rfl, rfl⟩) ?_
                refine wl_v (.bool true) rfl rfl (y_pickT rfl rfl rfl ⟨rfl, rfl⟩) ?_
                refine wl_v (.bool true) rfl rfl (y_mov rfl rfl ⟨rfl, rfl⟩) ?_
                refine wl_vw (.int .i64 ((srF (mkF (w) (h) (l)) (p) (x) (y) (fun _ => 0) (X) (Y)).n)) 10 true 136 rfl rfl rfl rfl rfl (y_mov rfl s590 ⟨rfl, rfl⟩) ?_
                refine wl_vw (.bool (decide ((0) ≤ ((srF (mkF (w) (h) (l)) (p) (x) (y) (fun _ => 0) (X) (Y)).n)))) 10 true 136 rfl rfl rfl rfl rfl (y_geq rfl rfl rfl rfl ⟨rfl, rfl⟩) ?_
                refine wl_vw (.bool true) 10 true 136 rfl rfl rfl rfl rfl (y_mov rfl (Eq.trans s586 (congrArg Value.bool (decide_eq_true d507))) ⟨rfl, rfl⟩) ?_
                refine wl_vw (.bool true) 10 true 136 rfl rfl rfl rfl rfl (y_mov rfl rfl ⟨rfl, rfl⟩) ?_
                refine wl_vw (.bool true) 14 true 140 rfl rfl rfl rfl rfl (y_mov rfl (Eq.trans s583 (congrArg Value.bool (decide_eq_true d593))) ⟨rfl, rfl⟩) ?_
                refine wl_vw (.bool true) 10 true 136 rfl rfl rfl rfl rfl (y_pickT rfl rfl rfl ⟨rfl, rfl⟩) ?_
                refine wl_vw (.bool true) 10 true 136 rfl rfl rfl rfl rfl (y_eqlB rfl rfl rfl Try.underlying4 ((by first | (rw [decide_eq_true ((sr_sign _ _ _ _ _ _ _).1 ⟨⟨mkF_ok w h l, by omega, by omega, by omega, by omega, by omega, by omega⟩, ⟨by omega, by omega, by omega, by omega⟩⟩)]; rfl) | (rw [decide_eq_false ((sr_sign _ _ _ _ _ _ _).2 (by rintro ⟨⟨_, h1, h2, h3, h4, h5, h6⟩, ⟨h7, h8, h9, h10⟩⟩; omega))]; rfl))) ⟨rfl, rfl⟩) ?_
                refine wl_v (.bool true) rfl rfl (y_pickT rfl rfl rfl ⟨rfl, rfl⟩) ?_
                refine wl_v (.bool true) rfl rfl (y_mov rfl rfl ⟨rfl, rfl⟩) ?_
                refine wl_vw (.agg #[.int .i64 (X), .int .i64 (Y)]) 19 true 145 rfl rfl rfl rfl rfl (y_load_stc stcT_vector rfl s584 B487 ⟨rfl, rfl⟩) ?_
                refine wl_callw (R := fun v_ w_ => v_ = .int .i64 (vecE (X) (Y)) ∧ Kept (fun _ => False) w475 w_) 19 true 145 rfl rfl rfl rfl rfl (y_cs rfl rfl rfl (fun _ _ => by kernel_rfl) (ev_func _) (vsC rfl vsN) (mo_check (X) (Y)  _   ) (fun e_ w_ h_ => ⟨_, h_.1, rfl, h_.2⟩)) ?_
                rintro _ w594 ⟨rfl, k595⟩
                have B596 := B486.all k595 Apart.none
                have B597 := B487.all k595 id
                have B598 := B488.all k595 Apart.none
                have B599 := B489.all k595 Apart.none
                have B600 := B490.all k595 Apart.none
                have B601 := B491.all k595 id
                have B602 := B492.all k595 id
                have B603 := B493.all k595 id
                have B604 := B494.all k595 id
                have K605 := K476.trans k595 (fun _ _ x => x.elim)
                refine wl_vw (.bool (decide ((vecE (X) (Y)) = (0)))) 19 true 145 rfl rfl rfl rfl rfl (y_eqlI rfl rfl rfl rfl ⟨rfl, rfl⟩) ?_
                refine wl_vw (.bool false) 19 true 145 rfl rfl rfl rfl rfl (y_mov rfl (Eq.trans s587 (congrArg Value.bool (decide_eq_false d521))) ⟨rfl, rfl⟩) ?_
                refine wl_vw (.bool true) 19 true 145 rfl rfl rfl rfl rfl (y_eqlB rfl rfl rfl Try.underlying4 ((by first | (rw [decide_eq_true (vecE_yes (X := X) (Y := Y) ⟨by omega, by omega, by omega, by omega⟩)]; rfl) | (rw [decide_eq_false (fun z => absurd ((vecE_iff X Y).1 z) (by rintro ⟨h1, h2, h3, h4⟩; omega))]; rfl))) ⟨rfl, rfl⟩) ?_
                refine wl_v (.bool true) rfl rfl (y_pickT rfl rfl rfl ⟨rfl, rfl⟩) ?_
                refine wl_v (.bool true) rfl rfl (y_asg rfl rfl ⟨rfl, rfl⟩) ?_
                refine wl_nil fun F606 hF607 => ?_
                have s608 : F606 152 = undef := (hF607 152).trans s591
                have s609 : F606 14 = .bool true := (hF607 14).trans rfl
                clear hF607
                refine then_normal ?_
                refine wq_ret ?_
                exact end_tmp (v := .bool true) s608 rfl rfl s609 ⟨rfl, K605⟩
              · skip
                refine wq_region ?_
                refine wl_v (.bool true) rfl rfl (y_mov rfl s585 ⟨rfl, rfl⟩) ?_
                refine wl_v (.bool true) rfl rfl (y_mov rfl rfl ⟨rfl, rfl⟩) ?_
                refine wl_vw (.int .i64 (mvE (mkF (w) (h) (l)) (p) (x) (y) (X) (Y))) 1 true 127 rfl rfl rfl rfl rfl (y_mov rfl s588 ⟨rfl, rfl⟩) ?_
                refine wl_vw (.int .i64 (90)) 1 true 127 rfl rfl rfl rfl rfl (y_mov rfl s592 ⟨rfl, rfl⟩) ?_
                refine wl_vw (.bool true) 1 true 127 rfl rfl rfl rfl rfl (y_eqlI rfl rfl rfl (decide_eq_true (by first | exact (mv_no (by rintro ⟨_, h1, h2, h3, h4, h5, h6⟩; omega)).1 | exact (mv_none ⟨mkF_ok w h l, by omega, by omega, by omega, by omega, by omega, by omega⟩ (by rintro ⟨h1, h2, h3, h4⟩; omega)).1 | exact (mv_yes ⟨mkF_ok w h l, by omega, by omega, by omega, by omega, by omega, by omega⟩ ⟨by omega, by omega, by omega, by omega⟩).1)) ⟨rfl, rfl⟩) ?_
                refine wl_v (.bool true) rfl rfl (y_pickT rfl rfl rfl ⟨rfl, rfl⟩) ?_
                refine wl_v (.bool true) rfl rfl (y_mov rfl rfl ⟨rfl, rfl⟩) ?_
                refine wl_vw (.int .i64 (mvE (FD.mk (0) (0) ([]) ([]) ([])) (p) (x) (y) (X) (Y))) 6 true 132 rfl rfl rfl rfl rfl (y_mov rfl s589 ⟨rfl, rfl⟩) ?_
                refine wl_vw (.bool true) 6 true 132 rfl rfl rfl rfl rfl (y_eqlI rfl rfl rfl (decide_eq_true (mv_no (none_place _ _ _)).1) ⟨rfl, rfl⟩) ?_
                refine wl_v (.bool true) rfl rfl (y_pickT rfl rfl rfl ⟨rfl, rfl⟩) ?_
                refine wl_v (.bool true) rfl rfl (y_mov rfl rfl ⟨rfl, rfl⟩) ?_
                refine wl_vw (.int .i64 ((srF (mkF (w) (h) (l)) (p) (x) (y) (fun _ => 0) (X) (Y)).n)) 10 true 136 rfl rfl rfl rfl rfl (y_mov rfl s590 ⟨rfl, rfl⟩) ?_
                refine wl_vw (.bool (decide ((0) ≤ ((srF (mkF (w) (h) (l)) (p) (x) (y) (fun _ => 0) (X) (Y)).n)))) 10 true 136 rfl rfl rfl rfl rfl (y_geq rfl rfl rfl rfl ⟨rfl, rfl⟩) ?_
                refine wl_vw (.bool true) 10 true 136 rfl rfl rfl rfl rfl (y_mov rfl (Eq.trans s586 (congrArg Value.bool (decide_eq_true d507))) ⟨rfl, rfl⟩) ?_
                refine wl_vw (.bool true) 10 true 136 rfl rfl rfl rfl rfl (y_mov rfl rfl ⟨rfl, rfl⟩) ?_
                refine wl_vw (.bool false) 14 true 140 rfl rfl rfl rfl rfl (y_mov rfl (Eq.trans s583 (congrArg Value.bool (decide_eq_false d593))) ⟨rfl, rfl⟩) ?_
                refine wl_vw (.bool false) 10 true 136 rfl rfl rfl rfl rfl (y_pickT rfl rfl rfl ⟨rfl, rfl⟩) ?_
                refine wl_vw (.bool true) 10 true 136 rfl rfl rfl rfl rfl (y_eqlB rfl rfl rfl Try.underlying4 ((by first | (rw [decide_eq_true ((sr_sign _ _ _ _ _ _ _).1 ⟨⟨mkF_ok w h l, by omega, by omega, by omega, by omega, by omega, by omega⟩, ⟨by omega, by omega, by omega, by omega⟩⟩)]; rfl) | (rw [decide_eq_false ((sr_sign _ _ _ _ _ _ _).2 (by rintro ⟨⟨_, h1, h2, h3, h4, h5, h6⟩, ⟨h7, h8, h9, h10⟩⟩; omega))]; rfl))) ⟨rfl, rfl⟩) ?_
                refine wl_v (.bool true) rfl rfl (y_pickT rfl rfl rfl ⟨rfl, rfl⟩) ?_
                refine wl_v (.bool true) rfl rfl (y_mov rfl rfl ⟨rfl, rfl⟩) ?_
                refine wl_vw (.agg #[.int .i64 (X), .int .i64 (Y)]) 19 true 145 rfl rfl rfl rfl rfl (y_load_stc stcT_vector rfl s584 B487 ⟨rfl, rfl⟩) ?_
                refine wl_callw (R := fun v_ w_ => v_ = .int .i64 (vecE (X) (Y)) ∧ Kept (fun _ => False) w475 w_) 19 true 145 rfl rfl rfl rfl rfl (y_cs rfl rfl rfl (fun _ _ => by kernel_rfl) (ev_func _) (vsC rfl vsN) (mo_check (X) (Y)  _   ) (fun e_ w_ h_ => ⟨_, h_.1, rfl, h_.2⟩)) ?_
                rintro _ w610 ⟨rfl, k611⟩
                have B612 := B486.all k611 Apart.none
                have B613 := B487.all k611 id
                have B614 := B488.all k611 Apart.none
                have B615 := B489.all k611 Apart.none
                have B616 := B490.all k611 Apart.none
                have B617 := B491.all k611 id
                have B618 := B492.all k611 id
                have B619 := B493.all k611 id
                have B620 := B494.all k611 id
                have K621 := K476.trans k611 (fun _ _ x => x.elim)
                refine wl_vw (.bool (decide ((vecE (X) (Y)) = (0)))) 19 true 145 rfl rfl rfl rfl rfl (y_eqlI rfl rfl rfl rfl ⟨rfl, rfl⟩) ?_
                refine wl_vw (.bool false) 19 true 145 rfl rfl rfl rfl rfl (y_mov rfl (Eq.trans s587 (congrArg Value.bool (decide_eq_false d521))) ⟨rfl, rfl⟩) ?_
                refine wl_vw (.bool true) 19 true 145 rfl rfl rfl rfl rfl (y_eqlB rfl rfl rfl Try.underlying4 ((by first | (rw [decide_eq_true (vecE_yes (X := X) (Y := Y) ⟨by omega, by omega, by omega, by omega⟩)]; rfl) | (rw [decide_eq_false (fun z => absurd ((vecE_iff X Y).1 z) (by rintro ⟨h1, h2, h3, h4⟩; omega))]; rfl))) ⟨rfl, rfl⟩) ?_
                refine wl_v (.bool true) rfl rfl (y_pickT rfl rfl rfl ⟨rfl, rfl⟩) ?_
                refine wl_v (.bool true) rfl rfl (y_asg rfl rfl ⟨rfl, rfl⟩) ?_
                refine wl_nil fun F622 hF623 => ?_
                have s624 : F622 152 = undef := (hF623 152).trans s591
                have s625 : F622 14 = .bool true := (hF623 14).trans rfl
                clear hF623
                refine then_normal ?_
                refine wq_ret ?_
                exact end_tmp (v := .bool true) s624 rfl rfl s625 ⟨rfl, K621⟩
          · skip
            refine wq_region ?_
            refine wl_v (.bool false) rfl rfl (y_mov rfl (Eq.trans s500 (congrArg Value.bool (decide_eq_false d507))) ⟨rfl, rfl⟩) ?_
            refine wl_v (.bool true) rfl rfl (y_not rfl rfl rfl ⟨rfl, rfl⟩) ?_
            refine wl_nil fun F626 hF627 => ?_
            have s628 : F626 25 = .bool (decide (-33 ≤ X ∧ X ≤ 33 ∧ -33 ≤ Y ∧ Y ≤ 33)) := (hF627 25).trans s497
            have s629 : F626 13 = .pointer (some ⟨p1, 0, none⟩) := (hF627 13).trans s498
            have s630 : F626 15 = .bool true := (hF627 15).trans s499
            have s631 : F626 17 = .bool (decide (0 ≤ p ∧ p ≤ 2 ∧ 0 ≤ x ∧ x ≤ 64 ∧ 0 ≤ y ∧ y ≤ 64)) := (hF627 17).trans s500
            have s632 : F626 18 = .bool (decide (-31 ≤ X ∧ X ≤ 31 ∧ -31 ≤ Y ∧ Y ≤ 31)) := (hF627 18).trans s501
            have s633 : F626 20 = .int .i64 (mvE (mkF (w) (h) (l)) (p) (x) (y) (X) (Y)) := (hF627 20).trans s502
            have s634 : F626 22 = .int .i64 (mvE (FD.mk (0) (0) ([]) ([]) ([])) (p) (x) (y) (X) (Y)) := (hF627 22).trans s503
            have s635 : F626 24 = .int .i64 ((srF (mkF (w) (h) (l)) (p) (x) (y) (fun _ => 0) (X) (Y)).n) := (hF627 24).trans s504
            have s636 : F626 152 = undef := (hF627 152).trans s505
            have s637 : F626 26 = .int .i64 (0) := (hF627 26).trans s506
            have s638 : F626 123 = .bool true := (hF627 123).trans rfl
            clear hF627
            refine then_normal ?_
            refine wq_cond (t := true) s638 (fun _ => ?_) (fun e => by cases e)
            refine wq_region ?_
            refine wl_v (.int .i64 (70)) rfl rfl (y_asg rfl rfl ⟨rfl, rfl⟩) ?_
            refine wl_nil fun F639 hF640 => ?_
            have s641 : F639 25 = .bool (decide (-33 ≤ X ∧ X ≤ 33 ∧ -33 ≤ Y ∧ Y ≤ 33)) := (hF640 25).trans s628
            have s642 : F639 13 = .pointer (some ⟨p1, 0, none⟩) := (hF640 13).trans s629
            have s643 : F639 15 = .bool true := (hF640 15).trans s630
            have s644 : F639 17 = .bool (decide (0 ≤ p ∧ p ≤ 2 ∧ 0 ≤ x ∧ x ≤ 64 ∧ 0 ≤ y ∧ y ≤ 64)) := (hF640 17).trans s631
            have s645 : F639 18 = .bool (decide (-31 ≤ X ∧ X ≤ 31 ∧ -31 ≤ Y ∧ Y ≤ 31)) := (hF640 18).trans s632
            have s646 : F639 20 = .int .i64 (mvE (mkF (w) (h) (l)) (p) (x) (y) (X) (Y)) := (hF640 20).trans s633
            have s647 : F639 22 = .int .i64 (mvE (FD.mk (0) (0) ([]) ([]) ([])) (p) (x) (y) (X) (Y)) := (hF640 22).trans s634
            have s648 : F639 24 = .int .i64 ((srF (mkF (w) (h) (l)) (p) (x) (y) (fun _ => 0) (X) (Y)).n) := (hF640 24).trans s635
            have s649 : F639 152 = undef := (hF640 152).trans s636
            have s650 : F639 26 = .int .i64 (70) := (hF640 26).trans rfl
            clear hF640
            refine then_normal ?_
            refine wq_seq ?_
            by_cases d651 : -31 ≤ X ∧ X ≤ 31 ∧ -31 ≤ Y ∧ Y ≤ 31
            · skip
              refine wq_region ?_
              refine wl_v (.bool true) rfl rfl (y_mov rfl s643 ⟨rfl, rfl⟩) ?_
              refine wl_v (.bool true) rfl rfl (y_mov rfl rfl ⟨rfl, rfl⟩) ?_
              refine wl_vw (.int .i64 (mvE (mkF (w) (h) (l)) (p) (x) (y) (X) (Y))) 1 true 127 rfl rfl rfl rfl rfl (y_mov rfl s646 ⟨rfl, rfl⟩) ?_
              refine wl_vw (.int .i64 (70)) 1 true 127 rfl rfl rfl rfl rfl (y_mov rfl s650 ⟨rfl, rfl⟩) ?_
              refine wl_vw (.bool true) 1 true 127 rfl rfl rfl rfl rfl (y_eqlI rfl rfl rfl (decide_eq_true (by first | exact (mv_no (by rintro ⟨_, h1, h2, h3, h4, h5, h6⟩; omega)).1 | exact (mv_none ⟨mkF_ok w h l, by omega, by omega, by omega, by omega, by omega, by omega⟩ (by rintro ⟨h1, h2, h3, h4⟩; omega)).1 | exact (mv_yes ⟨mkF_ok w h l, by omega, by omega, by omega, by omega, by omega, by omega⟩ ⟨by omega, by omega, by omega, by omega⟩).1)) ⟨rfl, rfl⟩) ?_
              refine wl_v (.bool true) rfl rfl (y_pickT rfl rfl rfl ⟨rfl, rfl⟩) ?_
              refine wl_v (.bool true) rfl rfl (y_mov rfl rfl ⟨rfl, rfl⟩) ?_
              refine wl_vw (.int .i64 (mvE (FD.mk (0) (0) ([]) ([]) ([])) (p) (x) (y) (X) (Y))) 6 true 132 rfl rfl rfl rfl rfl (y_mov rfl s647 ⟨rfl, rfl⟩) ?_
              refine wl_vw (.bool true) 6 true 132 rfl rfl rfl rfl rfl (y_eqlI rfl rfl rfl (decide_eq_true (mv_no (none_place _ _ _)).1) ⟨rfl, rfl⟩) ?_
              refine wl_v (.bool true) rfl rfl (y_pickT rfl rfl rfl ⟨rfl, rfl⟩) ?_
              refine wl_v (.bool true) rfl rfl (y_mov rfl rfl ⟨rfl, rfl⟩) ?_
              refine wl_vw (.int .i64 ((srF (mkF (w) (h) (l)) (p) (x) (y) (fun _ => 0) (X) (Y)).n)) 10 true 136 rfl rfl rfl rfl rfl (y_mov rfl s648 ⟨rfl, rfl⟩) ?_
              refine wl_vw (.bool (decide ((0) ≤ ((srF (mkF (w) (h) (l)) (p) (x) (y) (fun _ => 0) (X) (Y)).n)))) 10 true 136 rfl rfl rfl rfl rfl (y_geq rfl rfl rfl rfl ⟨rfl, rfl⟩) ?_
              refine wl_vw (.bool false) 10 true 136 rfl rfl rfl rfl rfl (y_mov rfl (Eq.trans s644 (congrArg Value.bool (decide_eq_false d507))) ⟨rfl, rfl⟩) ?_
              refine wl_vw (.bool false) 10 true 136 rfl rfl rfl rfl rfl (y_mov rfl rfl ⟨rfl, rfl⟩) ?_
              refine wl_unless 14 true 140 rfl rfl rfl (Or.inl rfl) rfl ?_
              refine wl_vw (.bool false) 10 true 136 rfl rfl rfl rfl rfl (y_pickF rfl rfl rfl ⟨rfl, rfl⟩) ?_
              refine wl_vw (.bool true) 10 true 136 rfl rfl rfl rfl rfl (y_eqlB rfl rfl rfl Try.underlying4 ((by first | (rw [decide_eq_true ((sr_sign _ _ _ _ _ _ _).1 ⟨⟨mkF_ok w h l, by omega, by omega, by omega, by omega, by omega, by omega⟩, ⟨by omega, by omega, by omega, by omega⟩⟩)]; rfl) | (rw [decide_eq_false ((sr_sign _ _ _ _ _ _ _).2 (by rintro ⟨⟨_, h1, h2, h3, h4, h5, h6⟩, ⟨h7, h8, h9, h10⟩⟩; omega))]; rfl))) ⟨rfl, rfl⟩) ?_
              refine wl_v (.bool true) rfl rfl (y_pickT rfl rfl rfl ⟨rfl, rfl⟩) ?_
              refine wl_v (.bool true) rfl rfl (y_mov rfl rfl ⟨rfl, rfl⟩) ?_
              refine wl_vw (.agg #[.int .i64 (X), .int .i64 (Y)]) 19 true 145 rfl rfl rfl rfl rfl (y_load_stc stcT_vector rfl s642 B487 ⟨rfl, rfl⟩) ?_
              refine wl_callw (R := fun v_ w_ => v_ = .int .i64 (vecE (X) (Y)) ∧ Kept (fun _ => False) w475 w_) 19 true 145 rfl rfl rfl rfl rfl (y_cs rfl rfl rfl (fun _ _ => by kernel_rfl) (ev_func _) (vsC rfl vsN) (mo_check (X) (Y)  _   ) (fun e_ w_ h_ => ⟨_, h_.1, rfl, h_.2⟩)) ?_
              rintro _ w652 ⟨rfl, k653⟩
              have B654 := B486.all k653 Apart.none
              have B655 := B487.all k653 id
              have B656 := B488.all k653 Apart.none
              have B657 := B489.all k653 Apart.none
              have B658 := B490.all k653 Apart.none
              have B659 := B491.all k653 id
              have B660 := B492.all k653 id
              have B661 := B493.all k653 id
              have B662 := B494.all k653 id
              have K663 := K476.trans k653 (fun _ _ x => x.elim)
              refine wl_vw (.bool (decide ((vecE (X) (Y)) = (0)))) 19 true 145 rfl rfl rfl rfl rfl (y_eqlI rfl rfl rfl rfl ⟨rfl, rfl⟩) ?_
              refine wl_vw (.bool true) 19 true 145 rfl rfl rfl rfl rfl (y_mov rfl (Eq.trans s645 (congrArg Value.bool (decide_eq_true d651))) ⟨rfl, rfl⟩) ?_
              refine wl_vw (.bool true) 19 true 145 rfl rfl rfl rfl rfl (y_eqlB rfl rfl rfl Try.underlying4 ((by first | (rw [decide_eq_true (vecE_yes (X := X) (Y := Y) ⟨by omega, by omega, by omega, by omega⟩)]; rfl) | (rw [decide_eq_false (fun z => absurd ((vecE_iff X Y).1 z) (by rintro ⟨h1, h2, h3, h4⟩; omega))]; rfl))) ⟨rfl, rfl⟩) ?_
              refine wl_v (.bool true) rfl rfl (y_pickT rfl rfl rfl ⟨rfl, rfl⟩) ?_
              refine wl_v (.bool true) rfl rfl (y_asg rfl rfl ⟨rfl, rfl⟩) ?_
              refine wl_nil fun F664 hF665 => ?_
              have s666 : F664 152 = undef := (hF665 152).trans s649
              have s667 : F664 14 = .bool true := (hF665 14).trans rfl
              clear hF665
              refine then_normal ?_
              refine wq_ret ?_
              exact end_tmp (v := .bool true) s666 rfl rfl s667 ⟨rfl, K663⟩
            · skip
              refine wq_region ?_
              refine wl_v (.bool true) rfl rfl (y_mov rfl s643 ⟨rfl, rfl⟩) ?_
              refine wl_v (.bool true) rfl rfl (y_mov rfl rfl ⟨rfl, rfl⟩) ?_
              refine wl_vw (.int .i64 (mvE (mkF (w) (h) (l)) (p) (x) (y) (X) (Y))) 1 true 127 rfl rfl rfl rfl rfl (y_mov rfl s646 ⟨rfl, rfl⟩) ?_
              refine wl_vw (.int .i64 (70)) 1 true 127 rfl rfl rfl rfl rfl (y_mov rfl s650 ⟨rfl, rfl⟩) ?_
              refine wl_vw (.bool true) 1 true 127 rfl rfl rfl rfl rfl (y_eqlI rfl rfl rfl (decide_eq_true (by first | exact (mv_no (by rintro ⟨_, h1, h2, h3, h4, h5, h6⟩; omega)).1 | exact (mv_none ⟨mkF_ok w h l, by omega, by omega, by omega, by omega, by omega, by omega⟩ (by rintro ⟨h1, h2, h3, h4⟩; omega)).1 | exact (mv_yes ⟨mkF_ok w h l, by omega, by omega, by omega, by omega, by omega, by omega⟩ ⟨by omega, by omega, by omega, by omega⟩).1)) ⟨rfl, rfl⟩) ?_
              refine wl_v (.bool true) rfl rfl (y_pickT rfl rfl rfl ⟨rfl, rfl⟩) ?_
              refine wl_v (.bool true) rfl rfl (y_mov rfl rfl ⟨rfl, rfl⟩) ?_
              refine wl_vw (.int .i64 (mvE (FD.mk (0) (0) ([]) ([]) ([])) (p) (x) (y) (X) (Y))) 6 true 132 rfl rfl rfl rfl rfl (y_mov rfl s647 ⟨rfl, rfl⟩) ?_
              refine wl_vw (.bool true) 6 true 132 rfl rfl rfl rfl rfl (y_eqlI rfl rfl rfl (decide_eq_true (mv_no (none_place _ _ _)).1) ⟨rfl, rfl⟩) ?_
              refine wl_v (.bool true) rfl rfl (y_pickT rfl rfl rfl ⟨rfl, rfl⟩) ?_
              refine wl_v (.bool true) rfl rfl (y_mov rfl rfl ⟨rfl, rfl⟩) ?_
              refine wl_vw (.int .i64 ((srF (mkF (w) (h) (l)) (p) (x) (y) (fun _ => 0) (X) (Y)).n)) 10 true 136 rfl rfl rfl rfl rfl (y_mov rfl s648 ⟨rfl, rfl⟩) ?_
              refine wl_vw (.bool (decide ((0) ≤ ((srF (mkF (w) (h) (l)) (p) (x) (y) (fun _ => 0) (X) (Y)).n)))) 10 true 136 rfl rfl rfl rfl rfl (y_geq rfl rfl rfl rfl ⟨rfl, rfl⟩) ?_
              refine wl_vw (.bool false) 10 true 136 rfl rfl rfl rfl rfl (y_mov rfl (Eq.trans s644 (congrArg Value.bool (decide_eq_false d507))) ⟨rfl, rfl⟩) ?_
              refine wl_vw (.bool false) 10 true 136 rfl rfl rfl rfl rfl (y_mov rfl rfl ⟨rfl, rfl⟩) ?_
              refine wl_unless 14 true 140 rfl rfl rfl (Or.inl rfl) rfl ?_
              refine wl_vw (.bool false) 10 true 136 rfl rfl rfl rfl rfl (y_pickF rfl rfl rfl ⟨rfl, rfl⟩) ?_
              refine wl_vw (.bool true) 10 true 136 rfl rfl rfl rfl rfl (y_eqlB rfl rfl rfl Try.underlying4 ((by first | (rw [decide_eq_true ((sr_sign _ _ _ _ _ _ _).1 ⟨⟨mkF_ok w h l, by omega, by omega, by omega, by omega, by omega, by omega⟩, ⟨by omega, by omega, by omega, by omega⟩⟩)]; rfl) | (rw [decide_eq_false ((sr_sign _ _ _ _ _ _ _).2 (by rintro ⟨⟨_, h1, h2, h3, h4, h5, h6⟩, ⟨h7, h8, h9, h10⟩⟩; omega))]; rfl))) ⟨rfl, rfl⟩) ?_
              refine wl_v (.bool true) rfl rfl (y_pickT rfl rfl rfl ⟨rfl, rfl⟩) ?_
              refine wl_v (.bool true) rfl rfl (y_mov rfl rfl ⟨rfl, rfl⟩) ?_
              refine wl_vw (.agg #[.int .i64 (X), .int .i64 (Y)]) 19 true 145 rfl rfl rfl rfl rfl (y_load_stc stcT_vector rfl s642 B487 ⟨rfl, rfl⟩) ?_
              refine wl_callw (R := fun v_ w_ => v_ = .int .i64 (vecE (X) (Y)) ∧ Kept (fun _ => False) w475 w_) 19 true 145 rfl rfl rfl rfl rfl (y_cs rfl rfl rfl (fun _ _ => by kernel_rfl) (ev_func _) (vsC rfl vsN) (mo_check (X) (Y)  _   ) (fun e_ w_ h_ => ⟨_, h_.1, rfl, h_.2⟩)) ?_
              rintro _ w668 ⟨rfl, k669⟩
              have B670 := B486.all k669 Apart.none
              have B671 := B487.all k669 id
              have B672 := B488.all k669 Apart.none
              have B673 := B489.all k669 Apart.none
              have B674 := B490.all k669 Apart.none
              have B675 := B491.all k669 id
              have B676 := B492.all k669 id
              have B677 := B493.all k669 id
              have B678 := B494.all k669 id
              have K679 := K476.trans k669 (fun _ _ x => x.elim)
              refine wl_vw (.bool (decide ((vecE (X) (Y)) = (0)))) 19 true 145 rfl rfl rfl rfl rfl (y_eqlI rfl rfl rfl rfl ⟨rfl, rfl⟩) ?_
              refine wl_vw (.bool false) 19 true 145 rfl rfl rfl rfl rfl (y_mov rfl (Eq.trans s645 (congrArg Value.bool (decide_eq_false d651))) ⟨rfl, rfl⟩) ?_
              refine wl_vw (.bool true) 19 true 145 rfl rfl rfl rfl rfl (y_eqlB rfl rfl rfl Try.underlying4 ((by first | (rw [decide_eq_true (vecE_yes (X := X) (Y := Y) ⟨by omega, by omega, by omega, by omega⟩)]; rfl) | (rw [decide_eq_false (fun z => absurd ((vecE_iff X Y).1 z) (by rintro ⟨h1, h2, h3, h4⟩; omega))]; rfl))) ⟨rfl, rfl⟩) ?_
              refine wl_v (.bool true) rfl rfl (y_pickT rfl rfl rfl ⟨rfl, rfl⟩) ?_
              refine wl_v (.bool true) rfl rfl (y_asg rfl rfl ⟨rfl, rfl⟩) ?_
              refine wl_nil fun F680 hF681 => ?_
              have s682 : F680 152 = undef := (hF681 152).trans s649
              have s683 : F680 14 = .bool true := (hF681 14).trans rfl
              clear hF681
              refine then_normal ?_
              refine wq_ret ?_
              exact end_tmp (v := .bool true) s682 rfl rfl s683 ⟨rfl, K679⟩
end Go.Proofs.Ytceoidglhakanaa
namespace Go.Proofs.Ytceoidglhakanaa
open Go.RowKit

theorem nat_u8 {n : Int} (h : (Lit.int .u8 n).wf = true) : ∃ m : Nat, n = (m : Int) ∧ m < 256 := by
  have := bounds_u8 h
  exact ⟨n.toNat, by omega, by omega⟩
end Go.Proofs.Ytceoidglhakanaa
