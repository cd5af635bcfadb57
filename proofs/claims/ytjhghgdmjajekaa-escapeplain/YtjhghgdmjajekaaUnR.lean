/- The document's Unescape. -/
import Derived.Test.YtjhghgdmjajekaaUn
namespace Go.Proofs.Ytjhghgdmjajekaa
open Go.RowKit

set_option maxHeartbeats 2000000 in
theorem ref_unescape (v : Value) (l : List Nat) (w : World) (h : BytesArg w v l) (hl : l.length < 8589934592) :
    Calls Try.prog 11 #[v] w (MayB w (unesc 0 l)) := by
  have h256 := h.lt256
  have HA := Lib.hid h
  obtain ⟨a, cap, rfl, h1, h2, h3, -, hc⟩ := h
  have HC := Lib.hid hc; clear hc h1 h2 h3
  have H256 := Lib.hid h256; clear h256
  generalize hN : l.length = n at *
  have HN := Lib.hid hN; clear hN
  go_enter Try.func11, Try.ntmps11
  go_wp2_with (fail)
  go_loopg [4, 5, 6] n (fun gg o zs i wr => ∃ (k z : Nat) (done : List Nat), k + gg = n ∧ i = .int .i64 (k : Int) ∧ zs = .int .i64 (z : Int) ∧ z ≤ k ∧ Own w wr o done ∧ done ++ strip z (l.drop k) = strip 0 l ∧ done.length ≤ k)
  case atStart => exact ⟨0, 0, [], by omega, rfl, rfl, by omega, Own.nil (Kept.refl _ _), by simp, by simp⟩
  case round =>
    obtain ⟨k, z, done, hk, rfl, rfl, hz, ho, hd, hdl⟩ := hrel
    have HO := Lib.hid ho; clear ho
    have HD := Lib.hid hd; clear hd
    have HK := Lib.hid hk
    by_cases hlt : k < n
    · obtain ⟨b, off, rfl, hb, hcell⟩ := HC.out (by omega)
      have hx := hcell k hlt
      have hx256 := getD_lt H256.out k
      have hdr := drop_at (l := l) (k := k) (by rw [HN.out]; exact hlt)
      generalize l.getD k 0 = c at *
      have HDR := Lib.hid hdr; clear hdr hcell
      have hcx : wr.cell? ⟨b, off + k, none⟩ = some (.int .u8 (c : Int)) := (World.cell?_of_block (HO.out.2.block b hb id)).trans hx
      have hgk : 0 < gk := by omega
      have HX := Lib.hid hx; clear hk hx
      by_cases hp : z = 2 ∧ c = 3
      · obtain ⟨rfl, rfl⟩ := hp
        have he : done ++ strip 0 (l.drop (k + 1)) = strip 0 l := by rw [← HD.out, HDR.out, strip_skip]
        have HE := Lib.hid he; clear he
        go_wp2
        go_roundg (gk - 1)
        case measure => omega
        case rel => exact ⟨k + 1, 0, done, by have := HK.out; omega, by go_num, rfl, by omega, HO.out, HE.out, by omega⟩
      · have he : done ++ [c] ++ strip (cnt z c) (l.drop (k + 1)) = strip 0 l := by
          rw [← HD.out, HDR.out, strip_keep z c _ hp]; simp
        have HE := Lib.hid he; clear he
        have ht : ((((z : Nat) : Int) == 2) = false) ∨ (z = 2 ∧ ((((c : Nat) : Int) == 3) = false)) := by
          by_cases h2 : z = 2
          · exact .inr ⟨h2, by simp; omega⟩
          · exact .inl (by simp; omega)
        rcases ht with hz2 | ⟨rfl, hc3⟩
        all_goals
          clear hp
          go_wp2_with (at_builtin; refine wpList_append_bytes _ rfl (.tmp 22) (.tmp 27) rfl w.heap.size _ _ done [c] rfl (HO.out.1.all ((Kept.refl _ _).alloc _)) rfl (BytesArg.box _ c hx256) (by simp; omega) (by have := HO.out.2.size; simp; omega) ?_)
          intro v1 w1 ha
          have HO1 := Lib.hid ((HO.out.all ((Kept.refl _ _).alloc _)).appended ha); clear ha hcx
          have hcx : w1.cell? ⟨b, off + k, none⟩ = some (.int .u8 (c : Int)) := (World.cell?_of_block (HO1.out.2.block b hb id)).trans HX.out
          by_cases h0 : c = 0
          · subst h0
            go_wp2
            go_roundg (gk - 1)
            case measure => omega
            case rel => exact ⟨k + 1, _ + 1, done ++ [0], by have := HK.out; omega, by go_num, by go_num, by omega, HO1.out, HE.out, by simp; omega⟩
          · have hc0 : (((c : Nat) : Int) != 0) = true := by simp; omega
            go_wp2
            go_roundg (gk - 1)
            case measure => omega
            case rel => exact ⟨k + 1, 0, done ++ [c], by have := HK.out; omega, by go_num, rfl, by omega, HO1.out, by have := HE.out; rwa [cnt_pos _ c h0] at this, by simp; omega⟩
    · have ek : k = n := by omega
      subst ek
      have hdr : l.drop k = [] := List.drop_eq_nil_of_le (by rw [HN.out]; exact Nat.le_refl _)
      rw [hdr] at HD
      have hd0 : done = strip 0 l := by have := HD.out; simpa [strip] using this
      have HD0 := Lib.hid hd0
      clear hdr hd0
      have hA0 := (HA.out.all (HO.out.2)).text
      have hA1 : (convert 22 9 (.slice a k cap)).run Try.prog wr.drew = .ok (.string (textOf l)) wr.drew := (HA.out.all (HO.out.2.drew)).text
      clear hA0
      have hE256 := esc_all done 256 (by omega) 0 HO.out.1.2
      have hbq := textOf_beq hE256 H256.out
      have hus := unesc_of_strip l
      rw [← HD0.out] at hus
      clear hE256
      have HUS := Lib.hid hus; clear hus
      by_cases heq : esc 0 done = l
      · have hbn : ((textOf (esc 0 done)).toList == (textOf l).toList) = true := by rw [hbq]; simp [heq]
        have hfin : unesc 0 l = some done := by rw [HUS.out, if_pos heq]
        have HF := Lib.hid hfin
        clear hbq heq hfin HUS
        go_wp2_with (fail)
        go_region_with (go_at_call 13; refine (ref_escape _ done _ (HO.out.1.bytes.all (Kept.refl _ _).drew) (by omega)).mono ?_; rintro e w2 ⟨v2, rfl, ho2⟩; have hA2 := (HA.out.all ((HO.out.2.drew).trans ho2.2 (fun _ _ x => x))).text; have hB2 := ho2.1.bytes.text)
        all_goals
          go_wp2
          go_ret2
          exact MayB.yes HF.out ((HO.out.all (Kept.refl _ _).drew).all ho2.2)
      · have hbn : ((textOf (esc 0 done)).toList == (textOf l).toList) = false := by rw [hbq]; simp [heq]
        have hfin : unesc 0 l = none := by rw [HUS.out, if_neg heq]
        have HF := Lib.hid hfin
        clear hbq heq hfin HUS
        go_wp2_with (fail)
        go_region_with (go_at_call 13; refine (ref_escape _ done _ (HO.out.1.bytes.all (Kept.refl _ _).drew) (by omega)).mono ?_; rintro e w2 ⟨v2, rfl, ho2⟩; have hA2 := (HA.out.all ((HO.out.2.drew).trans ho2.2 (fun _ _ x => x))).text; have hB2 := ho2.1.bytes.text)
        all_goals
          go_wp2
          go_ret2
          exact MayB.no HF.out ((HO.out.2.drew).trans ho2.2 (fun _ _ x => x))
end Go.Proofs.Ytjhghgdmjajekaa
