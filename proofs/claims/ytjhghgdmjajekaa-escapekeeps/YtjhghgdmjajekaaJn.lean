/- Join. -/
import Derived.Test.YtjhghgdmjajekaaSp
namespace Go.Proofs.Ytjhghgdmjajekaa
open Go.RowKit

theorem BytesArg.shape {w : World} {v : Value} {l : List Nat} (h : BytesArg w v l) : ∃ a cap, v = .slice a l.length cap := by
  obtain ⟨a, cap, rfl, _⟩ := h; exact ⟨a, cap, rfl⟩

theorem start_letters : lettersOf { data := #[0, 0, 1] } = [0, 0, 1] := by decide

set_option maxHeartbeats 1000000 in
theorem join_any (v : Value) (us : List (List Nat)) (w : World) (h : UnitsArg w v us) (hl : (join us).length < 68719476736) :
    Calls Try.prog 17 #[v] w (NewB w (join us)) := by
  obtain ⟨a, cap, rfl, h1, h2, h3, hc⟩ := h
  have HC := Lib.hid hc; clear hc h3
  unfold maxLen at h2
  generalize hN : us.length = n at *
  have HN := Lib.hid hN; clear hN
  have hn : (n : Int) ≤ 9223372036854775807 := by omega
  clear h1 h2
  go_enter Try.func17, Try.ntmps17
  go_wp2_with (fail)
  go_loopg [3, 8] n (fun gg o i wr => ∃ k : Nat, k + gg = n ∧ i = .int .i64 (k : Int) ∧ Own w wr o (join (us.take k)))
  case atStart => exact ⟨0, by omega, rfl, by simpa [join] using Own.nil (Kept.refl _ w)⟩
  case round =>
    obtain ⟨k, hk, rfl, ho⟩ := hrel
    have HO := Lib.hid ho; clear ho
    have HK := Lib.hid hk
    by_cases hlt : k < n
    · obtain ⟨b, off, rfl, hb, hcell⟩ := HC.out (by omega)
      obtain ⟨x, hx, hxb⟩ := hcell k hlt
      have hjt := join_take us k (by rw [HN.out]; exact hlt)
      have hjl := join_take_length us k (by rw [HN.out]; exact hlt)
      generalize us.getD k [] = u at *
      have hge := esc_length_ge u 0
      have HJT := Lib.hid hjt; clear hjt hcell
      obtain ⟨ax, cx, rfl⟩ := hxb.shape
      have hcx : wr.cell? ⟨b, off + k, none⟩ = some (.slice ax u.length cx) := (World.cell?_of_block (HO.out.2.block b hb id)).trans hx
      have HX := Lib.hid hxb; clear hxb hx
      have hgk : 0 < gk := by omega
      clear hk
      generalize join (us.take k) = jk at *
      go_wp2_with (at_builtin; refine wpList_append_letters _ rfl (.tmp 12) (.const (.string { data := #[0, 0, 1] })) rfl w.heap.size _ _ jk rfl HO.out.1 rfl (by decide) (by show jk.length + 3 < _; omega) HO.out.2.size ?_)
      intro v1 w1 ha
      have HO1 := Lib.hid (HO.out.appended ha); clear ha hcx
      rw [start_letters] at HO1
      go_wp2_with (fail)
      refine (escape_any _ u _ (HX.out.all HO1.out.2) (by omega)).mono ?_
      rintro e w2 ⟨v2, rfl, ho2⟩
      have HO2 := Lib.hid (HO1.out.all ho2.2)
      have HB2 := Lib.hid ho2.1.bytes; clear ho2
      go_wp2_with (at_builtin; refine wpList_append_bytes _ rfl (.tmp 14) (.tmp 16) rfl w.heap.size _ _ (jk ++ [0, 0, 1]) (esc 0 u) rfl HO2.out.1 rfl HB2.out (by simp; omega) HO2.out.2.size ?_)
      intro v3 w3 ha
      have HO3 := Lib.hid (HO2.out.appended ha); clear ha
      go_wp2
      go_roundg (gk - 1)
      case measure => omega
      case rel => exact ⟨k + 1, by have := HK.out; omega, by go_num, by rw [HJT.out]; simpa using HO3.out⟩
    · have ek : k = n := by omega
      subst ek
      have he : us.take k = us := List.take_of_length_le (by rw [HN.out]; exact Nat.le_refl _)
      rw [he] at HO
      clear he
      go_wp2
      go_ret
      exact ⟨_, rfl, HO.out⟩
end Go.Proofs.Ytjhghgdmjajekaa
