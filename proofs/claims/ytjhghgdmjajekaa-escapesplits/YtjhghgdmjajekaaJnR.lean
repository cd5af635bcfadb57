/- The document's Join. -/
import Derived.Test.YtjhghgdmjajekaaRowV
import Derived.Test.YtjhghgdmjajekaaRo
namespace Go.Proofs.Ytjhghgdmjajekaa
open Go.RowKit

theorem Own.kept0 {w w1 w' : World} {v : Value} {l : List Nat} (h : Own w w1 v l) (k : Kept (fun b => v.ownBlock = some b) w1 w') : Kept (fun _ => False) w w' :=
  h.2.trans k (fun i hi x => by have := (h.1.lt i x).1; omega)

set_option maxHeartbeats 2000000 in
theorem ref_join (v : Value) (us : List (List Nat)) (w : World) (h : UnitsArg w v us) (hl : (join us).length < 68719476736) :
    Calls Try.prog 18 #[v] w (NewB w (join us)) := by
  obtain ⟨a, cap, rfl, h1, h2, h3, hc⟩ := h
  have HC := Lib.hid hc; clear hc h3
  unfold maxLen at h2
  generalize hN : us.length = n at *
  have HN := Lib.hid hN; clear hN
  have hn : (n : Int) ≤ 9223372036854775807 := by omega
  clear h1 h2
  go_enter Try.func18, Try.ntmps18
  go_wp2_with (fail)
  go_loopg [3, 4] n (fun gg o i wr => ∃ k : Nat, k + gg = n ∧ i = .int .i64 (k : Int) ∧ Own w wr o (join (us.take k)))
  case atStart => exact ⟨0, by omega, rfl, by simpa [join] using Own.nil (Kept.refl _ w)⟩
  case round =>
    obtain ⟨k, hk, rfl, ho⟩ := hrel
    have HO := Lib.hid ho; clear ho
    have HK := Lib.hid hk
    by_cases hkl : k < n
    · obtain ⟨b, off, rfl, hb, hcell⟩ := HC.out (by omega)
      obtain ⟨x, hx, hxb⟩ := hcell k hkl
      have hjt := join_take us k (by rw [HN.out]; exact hkl)
      have hjl := join_take_length us k (by rw [HN.out]; exact hkl)
      generalize us.getD k [] = u at *
      have hge := esc_length_ge u 0
      have HJT := Lib.hid hjt; clear hjt hcell
      obtain ⟨ax, cx, rfl⟩ := hxb.shape
      have HX := Lib.hid hxb; have HCX := Lib.hid hx; clear hxb hx
      have hgk : 0 < gk := by omega
      have hkn : (k : Int) < (n : Int) := by omega
      clear hk
      generalize join (us.take k) = jk at *
      go_wp2_with (fail)
      obtain ⟨B0, hB0⟩ : ∃ B0, B0 = w.heap.size := ⟨_, rfl⟩
      have HB0 := Lib.hid (show Row wr B0 u3 jk by rw [hB0]; exact HO.out.1)
      have hB1 : B0 ≤ wr.heap.size := by rw [hB0]; exact HO.out.2.size
      have hS0 : ∀ q, u3.ownBlock = some q → q < wr.heap.size := fun q hq => (HO.out.1.lt q hq).2
      refine wp_region_own [some 11, some 12, some 13, some 14, some 15, some 16, some 17, some 18, some 19, some 3] (fun q => u3.ownBlock = some q) (B0) (u3) (jk) [9, 8, 2, 0] (fun i => ([jk, [], jk ++ [0, 0, 1], [], [], [], [], [], jk ++ [0, 0, 1] ++ esc 0 u, jk ++ [0, 0, 1] ++ esc 0 u] : List (List Nat)).getD i []) (Said [Pd.any, Pd.bytes ([0, 0, 1]), Pd.any, Pd.eq (.slice (some ⟨b, off, none⟩) n cap), Pd.eq (.int .i64 (k : Int)), Pd.eq (.pointer (some ⟨b, off + k, none⟩)), Pd.eq (.slice ax u.length cx), Pd.bytes (esc 0 u), Pd.any, Pd.any]) (by kernel_rfl) (by kernel_rfl) (HB0.out) (fun _ hq => hq) (hS0) ?_ (fun x hx => by cases hx; decide) ?_
      · refine stepsJ_cons ?_ ?_
        · refine StepJ.own [9, 8, 2] [] rfl (by decide) (fun x hx => by cases hx) (fun _ _ => trivial) fun S a w hlt hR hout hlate hD p lp hpr hp => ?_
          have e1 := hp.1; have e2 := hp.2; rw [e1, e2] at hpr; rw [e1]; exact ⟨goes_one rfl, y_move rfl ⟨by rw [hlate 3 (by kernel_rfl)]; exact hpr, Kept.refl _ _, .inl (by rw [hlate 3 (by kernel_rfl)]; rfl)⟩⟩
        refine stepsJ_cons ?_ ?_
        · refine StepJ.one (by decide) rfl fun S a w hlt hR hout hlate hD hrow => ?_
          exact y_val (by simp [execOp, go_sem]; rfl) ⟨rob_own hlt ⟨Row.of_new (l := [0, 0, 1]) (heap_alloc_new w _) (Nat.le_refl _) (by decide) (by decide), (Kept.refl _ _).alloc _⟩, (Kept.refl _ _).alloc _⟩
        refine stepsJ_cons ?_ ?_
        · refine StepJ.own [9, 8] [0] rfl (by decide) (fun x hx => by cases hx; exact ⟨_, List.mem_of_getElem? (i := 0) rfl, rfl, rfl, _, rfl⟩) (fun _ _ => trivial) fun S a w hlt hR hout hlate hD p lp hpr hp => ?_
          have q12 : ∀ w', Kept S w w' → BytesArg w' (a.eval (.tmp 12)) ([0, 0, 1]) := hD.get 1 rfl rfl rfl
          have g12 := q12 w (Kept.refl _ _)
          have e1 := hp.2 11 rfl; have e2 := hp.1; subst e1; rw [e2] at hpr; exact ⟨goes_one rfl, y_append rfl rfl rfl rfl hpr g12 (by show jk.length + 3 < _; omega) (Nat.le_trans hB1 (hR w (Kept.refl _ _)).size)⟩
        refine stepsJ_cons ?_ ?_
        · refine StepJ.one (by decide) rfl fun S a w hlt hR hout hlate hD hrow => ?_
          exact y_move rfl ⟨fun w'' k => by have hR := hR w'' k; rw [hout 0 (by decide)]; exact rfl, Kept.refl _ _⟩
        refine stepsJ_cons ?_ ?_
        · refine StepJ.one (by decide) rfl fun S a w hlt hR hout hlate hD hrow => ?_
          exact y_move rfl ⟨fun w'' k => by have hR := hR w'' k; rw [hout 4 (by decide)]; exact rfl, Kept.refl _ _⟩
        refine stepsJ_cons ?_ ?_
        · refine StepJ.one (by decide) rfl fun S a w hlt hR hout hlate hD hrow => ?_
          have q14 : ∀ w', Kept S w w' → a.eval (.tmp 14) = .slice (some ⟨b, off, none⟩) n cap := hD.get 0 rfl rfl rfl
          have g14 := q14 w (Kept.refl _ _)
          have q15 : ∀ w', Kept S w w' → a.eval (.tmp 15) = .int .i64 (k : Int) := hD.get 1 rfl rfl rfl
          have g15 := q15 w (Kept.refl _ _)
          exact y_index_sl rfl g14 g15 hkl ⟨fun _ _ => rfl, Kept.refl _ _⟩
        refine stepsJ_cons ?_ ?_
        · refine StepJ.one (by decide) rfl fun S a w hlt hR hout hlate hD hrow => ?_
          have q16 : ∀ w', Kept S w w' → a.eval (.tmp 16) = .pointer (some ⟨b, off + k, none⟩) := hD.get 0 rfl rfl rfl
          have g16 := q16 w (Kept.refl _ _)
          exact y_load_sl rfl g16 ((World.cell?_of_block (a := ⟨b, off + k, none⟩) ((HO.out.kept0 (hR w (Kept.refl _ _))).block b hb id)).trans HCX.out) ⟨fun _ _ => rfl, Kept.refl _ _⟩
        refine stepsJ_cons ?_ ?_
        · refine StepJ.one (by decide) rfl fun S a w hlt hR hout hlate hD hrow => ?_
          have q17 : ∀ w', Kept S w w' → a.eval (.tmp 17) = .slice ax u.length cx := hD.get 0 rfl rfl rfl
          have g17 := q17 w (Kept.refl _ _)
          exact y_call1 rfl rfl rfl (fun _ _ => by kernel_rfl) (rob_call hlt (ref_escape _ u w (by rw [g17]; exact HX.out.all (HO.out.kept0 (hR w (Kept.refl _ _)))) (by omega)))
        refine stepsJ_cons ?_ ?_
        · refine StepJ.own [9] [2, 0] rfl (by decide) (fun x hx => by cases hx; exact ⟨_, List.mem_of_getElem? (i := 0) rfl, rfl, rfl, _, rfl⟩) (fun _ _ => trivial) fun S a w hlt hR hout hlate hD p lp hpr hp => ?_
          have q18 : ∀ w', Kept S w w' → BytesArg w' (a.eval (.tmp 18)) (esc 0 u) := hD.get 1 rfl rfl rfl
          have g18 := q18 w (Kept.refl _ _)
          have e1 := hp.2 13 rfl; have e2 := hp.1; subst e1; rw [e2] at hpr; exact ⟨goes_one rfl, y_append rfl rfl rfl rfl hpr g18 (by show (jk ++ [0, 0, 1]).length + (esc 0 u).length < _; simp; omega) (Nat.le_trans hB1 (hR w (Kept.refl _ _)).size)⟩
        refine stepsJ_cons ?_ ?_
        · refine StepJ.own [] [8, 2, 0] rfl (by decide) (fun x hx => by cases hx; exact ⟨_, List.mem_of_getElem? (i := 0) rfl, rfl, rfl, _, rfl⟩) (fun _ _ => trivial) fun S a w hlt hR hout hlate hD p lp hpr hp => ?_
          have e1 := hp.2 19 rfl; have e2 := hp.1; subst e1; rw [e2] at hpr; exact ⟨goes_one rfl, y_assign rfl ⟨hpr, Kept.refl _ _, .inl rfl⟩⟩
        exact stepsJ_nil
      intro v wE hE hG hrow
      have r3 := hrow 9 rfl
      clear hG hrow
      simp only [putAll, Act.put, List.setIfInBounds_toArray, List.set_cons_succ, List.set_cons_zero, Nat.reduceAdd]
      have HF := Lib.hid (show Own w wE (v 9) (join (us.take (k + 1))) by
        rw [HJT.out]
        exact ⟨by rw [← hB0]; exact r3, HO.out.kept0 hE⟩)
      clear r3 hE hS0 hB0 HB0 hB1
      go_wp2
      go_roundg (gk - 1)
      case measure => omega
      case rel => exact ⟨k + 1, by have := HK.out; omega, by go_num, HF.out⟩
    · have ek : k = n := by omega
      subst ek
      have he : us.take k = us := List.take_of_length_le (by rw [HN.out]; exact Nat.le_refl _)
      rw [he] at HO
      clear he
      go_wp2
      go_ret
      exact ⟨_, rfl, HO.out⟩
end Go.Proofs.Ytjhghgdmjajekaa
