/- What Escape, Unescape and their helpers do, and the document's own ones. -/
import Derived.Test.YtjhghgdmjajekaaBv
import Derived.Test.YtjhghgdmjajekaaEPure
import Derived.Deep.LoopGhost
import Derived.Deep.RegionWith
namespace Go.Proofs.Ytjhghgdmjajekaa
open Go.RowKit

theorem drop_at {l : List Nat} {k : Nat} (h : k < l.length) : l.drop k = l.getD k 0 :: l.drop (k + 1) := by
  rw [List.drop_eq_getElem_cons h]; simp [List.getD, h]

theorem cnt_int (z c : Nat) : ((cnt z c : Nat) : Int) = if c = 0 then (z : Int) + 1 else 0 := by unfold cnt; split <;> simp

theorem count_any (z c : Nat) (w : World) (hz : z ≤ 2) :
    Calls Try.prog 19 #[.int .i64 (z : Int), .int .u8 (c : Int)] w fun e w' => e = .returned (.int .i64 ((cnt z c : Nat) : Int)) ∧ w = w' := by
  by_cases h : c = 0
  · subst h
    rw [cnt_zero]
    go_enter Try.func19, Try.ntmps19
    go_wp2
    go_ret
    exact ⟨rfl, rfl⟩
  · have hc : (((c : Nat) : Int) != 0) = true := by simp; omega
    rw [cnt_pos z c h]
    go_enter Try.func19, Try.ntmps19
    go_wp2
    go_ret
    exact ⟨rfl, rfl⟩

/-- What a call that makes bytes leaves. -/
def NewB (w : World) (l : List Nat) (e : Ending) (w' : World) : Prop := ∃ v, e = .returned v ∧ Own w w' v l

set_option maxHeartbeats 1000000 in
theorem escape_any (v : Value) (l : List Nat) (w : World) (h : BytesArg w v l) (hl : l.length < 68719476736) :
    Calls Try.prog 12 #[v] w (NewB w (esc 0 l)) := by
  have h256 := h.lt256
  obtain ⟨a, cap, rfl, h1, h2, h3, -, hc⟩ := h
  have HC := Lib.hid hc; clear hc h1 h2 h3
  have H256 := Lib.hid h256; clear h256
  generalize hN : l.length = n at *
  have HN := Lib.hid hN; clear hN
  go_enter Try.func12, Try.ntmps12
  go_wp2_with (fail)
  go_loopg [3, 4, 9] n (fun gg o zs i wr => ∃ (k z : Nat) (done : List Nat), k + gg = n ∧ i = .int .i64 (k : Int) ∧ zs = .int .i64 (z : Int) ∧ z ≤ 2 ∧ Own w wr o done ∧ done ++ esc z (l.drop k) = esc 0 l ∧ done.length ≤ 2 * k)
  case atStart => exact ⟨0, 0, [], by omega, rfl, rfl, by omega, Own.nil (Kept.refl _ _), by simp, by simp⟩
  case round =>
    obtain ⟨k, z, done, hk, rfl, rfl, hz, ho, hd, hdl⟩ := hrel
    have HO := Lib.hid ho; clear ho
    have HD := Lib.hid hd; clear hd
    have HK := Lib.hid hk
    by_cases hlt : k < n
    · obtain ⟨b, off, rfl, hb, hcell⟩ := HC.out (by omega)
      have hx := hcell k hlt
      have hx256 := getD_lt H256.out k
      have hdr := drop_at (l := l) (k := k) (by rw [HN.out]; exact hlt)
      generalize l.getD k 0 = c at *
      have HDR := Lib.hid hdr; clear hdr hcell
      have hcx : wr.cell? ⟨b, off + k, none⟩ = some (.int .u8 (c : Int)) := (World.cell?_of_block (HO.out.2.block b hb id)).trans hx
      have hgk : 0 < gk := by omega
      clear hk hx
      by_cases hp : z = 2 ∧ c ≤ 3
      · obtain ⟨rfl, hc3⟩ := hp
        go_wp2_with (at_builtin; refine wpList_append_bytes _ rfl (.tmp 19) (.tmp 20) rfl w.heap.size _ _ done [3] rfl (HO.out.1.all ((Kept.refl _ _).alloc _)) rfl (BytesArg.box _ 3 (by decide)) (by simp; omega) (by have := HO.out.2.size; simp; omega) ?_)
        intro v1 w1 ha
        have HO1 := Lib.hid ((HO.out.all ((Kept.refl _ _).alloc _)).appended ha); clear ha hcx
        go_wp2_with (at_builtin; refine wpList_append_bytes _ rfl (.tmp 22) (.tmp 24) rfl w.heap.size _ _ (done ++ [3]) [c] rfl (HO1.out.1.all ((Kept.refl _ _).alloc _)) rfl (BytesArg.box _ c hx256) (by simp; omega) (by have := HO1.out.2.size; simp; omega) ?_)
        intro v2 w2 ha
        have HO2 := Lib.hid ((HO1.out.all ((Kept.refl _ _).alloc _)).appended ha); clear ha
        go_wp2_with (fail)
        refine (count_any 0 c _ (by omega)).mono ?_
        rintro e w3 ⟨rfl, rfl⟩
        have hcl := cnt_le 0 c (by omega)
        have he : done ++ [3] ++ [c] ++ esc (cnt 0 c) (l.drop (k + 1)) = esc 0 l := by
          rw [← HD.out, HDR.out, esc_put c _ hc3]; simp
        generalize cnt 0 c = z' at *
        have HE := Lib.hid he; clear he
        go_wp2
        go_roundg (gk - 1)
        case measure => omega
        case rel => exact ⟨k + 1, z', done ++ [3] ++ [c], by have := HK.out; omega, by go_num, rfl, hcl, by simpa using HO2.out, HE.out, by simp; omega⟩
      · have hp' : z < 2 ∨ 3 < c := by omega
        have hcl := cnt_le z c hp'
        have he : done ++ [c] ++ esc (cnt z c) (l.drop (k + 1)) = esc 0 l := by
          rw [← HD.out, HDR.out, esc_plain z c _ hp']; simp
        have HE := Lib.hid he; clear he
        by_cases hz2 : z = 2
        · subst hz2
          have hc3 : 3 < c := by omega
          clear hp hp'
          go_wp2_with (at_builtin; refine wpList_append_bytes _ rfl (.tmp 22) (.tmp 24) rfl w.heap.size _ _ done [c] rfl (HO.out.1.all ((Kept.refl _ _).alloc _)) rfl (BytesArg.box _ c hx256) (by simp; omega) (by have := HO.out.2.size; simp; omega) ?_)
          intro v1 w1 ha
          have HO1 := Lib.hid ((HO.out.all ((Kept.refl _ _).alloc _)).appended ha); clear ha hcx
          go_wp2_with (fail)
          refine (count_any 2 c _ (by omega)).mono ?_
          rintro e w3 ⟨rfl, rfl⟩
          generalize cnt 2 c = z' at *
          go_wp2
          go_roundg (gk - 1)
          case measure => omega
          case rel => exact ⟨k + 1, z', done ++ [c], by have := HK.out; omega, by go_num, rfl, hcl, HO1.out, HE.out, by simp; omega⟩
        · have hb2 : (((z : Nat) : Int) == 2) = false := by simp; omega
          clear hp hp' hz2
          go_wp2_with (at_builtin; refine wpList_append_bytes _ rfl (.tmp 22) (.tmp 24) rfl w.heap.size _ _ done [c] rfl (HO.out.1.all ((Kept.refl _ _).alloc _)) rfl (BytesArg.box _ c hx256) (by simp; omega) (by have := HO.out.2.size; simp; omega) ?_)
          intro v1 w1 ha
          have HO1 := Lib.hid ((HO.out.all ((Kept.refl _ _).alloc _)).appended ha); clear ha hcx
          go_wp2_with (fail)
          refine (count_any z c _ hz).mono ?_
          rintro e w3 ⟨rfl, rfl⟩
          generalize cnt z c = z' at *
          go_wp2
          go_roundg (gk - 1)
          case measure => omega
          case rel => exact ⟨k + 1, z', done ++ [c], by have := HK.out; omega, by go_num, rfl, hcl, HO1.out, HE.out, by simp; omega⟩
    · have ek : k = n := by omega
      subst ek
      have hdr : l.drop k = [] := List.drop_eq_nil_of_le (by rw [HN.out]; exact Nat.le_refl _)
      rw [hdr] at HD
      clear hdr
      by_cases hz2 : z = 2
      · subst hz2
        go_wp2_with (at_builtin; refine wpList_append_bytes _ rfl (.tmp 32) (.tmp 33) rfl w.heap.size _ _ done [3] rfl (HO.out.1.all ((Kept.refl _ _).alloc _)) rfl (BytesArg.box _ 3 (by decide)) (by simp; omega) (by have := HO.out.2.size; simp; omega) ?_)
        intro v1 w1 ha
        have HO1 := Lib.hid ((HO.out.all ((Kept.refl _ _).alloc _)).appended ha); clear ha
        go_wp2
        go_ret
        refine ⟨_, rfl, ?_⟩
        rw [← HD.out, esc_nil2]; exact HO1.out
      · have hb2 : (((z : Nat) : Int) == 2) = false := by simp; omega
        go_wp2
        go_ret
        refine ⟨_, rfl, ?_⟩
        rw [← HD.out, esc_nil z (by omega), List.append_nil]; exact HO.out

set_option maxHeartbeats 1000000 in
theorem ref_escape (v : Value) (l : List Nat) (w : World) (h : BytesArg w v l) (hl : l.length < 68719476736) :
    Calls Try.prog 13 #[v] w (NewB w (esc 0 l)) := by
  have h256 := h.lt256
  obtain ⟨a, cap, rfl, h1, h2, h3, -, hc⟩ := h
  have HC := Lib.hid hc; clear hc h1 h2 h3
  have H256 := Lib.hid h256; clear h256
  generalize hN : l.length = n at *
  have HN := Lib.hid hN; clear hN
  go_enter Try.func13, Try.ntmps13
  go_wp2_with (fail)
  go_loopg [3, 4, 5] n (fun gg o zs i wr => ∃ (k z : Nat) (done : List Nat), k + gg = n ∧ i = .int .i64 (k : Int) ∧ zs = .int .i64 (z : Int) ∧ z ≤ 2 ∧ Own w wr o done ∧ done ++ esc z (l.drop k) = esc 0 l ∧ done.length ≤ 2 * k)
  case atStart => exact ⟨0, 0, [], by omega, rfl, rfl, by omega, Own.nil (Kept.refl _ _), by simp, by simp⟩
  case round =>
    obtain ⟨k, z, done, hk, rfl, rfl, hz, ho, hd, hdl⟩ := hrel
    have HO := Lib.hid ho; clear ho
    have HD := Lib.hid hd; clear hd
    have HK := Lib.hid hk
    by_cases hlt : k < n
    · obtain ⟨b, off, rfl, hb, hcell⟩ := HC.out (by omega)
      have hx := hcell k hlt
      have hx256 := getD_lt H256.out k
      have hdr := drop_at (l := l) (k := k) (by rw [HN.out]; exact hlt)
      generalize l.getD k 0 = c at *
      have HDR := Lib.hid hdr; clear hdr hcell
      have hcx : wr.cell? ⟨b, off + k, none⟩ = some (.int .u8 (c : Int)) := (World.cell?_of_block (HO.out.2.block b hb id)).trans hx
      have hgk : 0 < gk := by omega
      have hkn : (((k : Nat) : Int) == (n : Int)) = false := by simp; omega
      have HX := Lib.hid hx; clear hk hx
      by_cases hp : z = 2 ∧ c ≤ 3
      · obtain ⟨rfl, hc3⟩ := hp
        go_wp2_with (at_builtin; refine wpList_append_bytes _ rfl (.tmp 27) (.tmp 28) rfl w.heap.size _ _ done [3] rfl (HO.out.1.all ((Kept.refl _ _).alloc _)) rfl (BytesArg.box _ 3 (by decide)) (by simp; omega) (by have := HO.out.2.size; simp; omega) ?_)
        intro v1 w1 ha
        have HO1 := Lib.hid ((HO.out.all ((Kept.refl _ _).alloc _)).appended ha); clear ha hcx
        have hcx : w1.cell? ⟨b, off + k, none⟩ = some (.int .u8 (c : Int)) := (World.cell?_of_block (HO1.out.2.block b hb id)).trans HX.out
        go_wp2_with (at_builtin; refine wpList_append_bytes _ rfl (.tmp 35) (.tmp 40) rfl w.heap.size _ _ (done ++ [3]) [c] rfl (HO1.out.1.all ((Kept.refl _ _).alloc _)) rfl (BytesArg.box _ c hx256) (by simp; omega) (by have := HO1.out.2.size; simp; omega) ?_)
        intro v2 w2 ha
        have HO2 := Lib.hid ((HO1.out.all ((Kept.refl _ _).alloc _)).appended ha); clear ha hcx
        have hcx : w2.cell? ⟨b, off + k, none⟩ = some (.int .u8 (c : Int)) := (World.cell?_of_block (HO2.out.2.block b hb id)).trans HX.out
        have hcl := cnt_le 0 c (by omega)
        have he : done ++ [3] ++ [c] ++ esc (cnt 0 c) (l.drop (k + 1)) = esc 0 l := by
          rw [← HD.out, HDR.out, esc_put c _ hc3]; simp
        have HE := Lib.hid he; clear he
        by_cases h0 : c = 0
        · subst h0
          go_wp2
          go_roundg (gk - 1)
          case measure => omega
          case rel => exact ⟨k + 1, 1, done ++ [3] ++ [0], by have := HK.out; omega, by go_num, rfl, by omega, by simpa using HO2.out, HE.out, by simp; omega⟩
        · have hc0 : (((c : Nat) : Int) != 0) = true := by simp; omega
          go_wp2
          go_roundg (gk - 1)
          case measure => omega
          case rel => exact ⟨k + 1, 0, done ++ [3] ++ [c], by have := HK.out; omega, by go_num, rfl, by omega, by simpa using HO2.out, by have := HE.out; rwa [cnt_pos 0 c h0] at this, by simp; omega⟩
      · have hp' : z < 2 ∨ 3 < c := by omega
        have hcl := cnt_le z c hp'
        have he : done ++ [c] ++ esc (cnt z c) (l.drop (k + 1)) = esc 0 l := by
          rw [← HD.out, HDR.out, esc_plain z c _ hp']; simp
        have HE := Lib.hid he; clear he
        by_cases hz2 : z = 2
        · subst hz2
          have hc3 : 3 < c := by omega
          have hc0 : (((c : Nat) : Int) != 0) = true := by simp; omega
          clear hp hp'
          go_wp2_with (at_builtin; refine wpList_append_bytes _ rfl (.tmp 35) (.tmp 40) rfl w.heap.size _ _ done [c] rfl (HO.out.1.all ((Kept.refl _ _).alloc _)) rfl (BytesArg.box _ c hx256) (by simp; omega) (by have := HO.out.2.size; simp; omega) ?_)
          intro v1 w1 ha
          have HO1 := Lib.hid ((HO.out.all ((Kept.refl _ _).alloc _)).appended ha); clear ha hcx
          have hcx : w1.cell? ⟨b, off + k, none⟩ = some (.int .u8 (c : Int)) := (World.cell?_of_block (HO1.out.2.block b hb id)).trans HX.out
          go_wp2
          go_roundg (gk - 1)
          case measure => omega
          case rel => exact ⟨k + 1, 0, done ++ [c], by have := HK.out; omega, by go_num, rfl, by omega, HO1.out, by have := HE.out; rwa [cnt_pos 2 c (by omega)] at this, by simp; omega⟩
        · have hb2 : (((z : Nat) : Int) == 2) = false := by simp; omega
          have hz1 : z < 2 := by omega
          clear hp hp' hz2
          go_wp2_with (at_builtin; refine wpList_append_bytes _ rfl (.tmp 35) (.tmp 40) rfl w.heap.size _ _ done [c] rfl (HO.out.1.all ((Kept.refl _ _).alloc _)) rfl (BytesArg.box _ c hx256) (by simp; omega) (by have := HO.out.2.size; simp; omega) ?_)
          intro v1 w1 ha
          have HO1 := Lib.hid ((HO.out.all ((Kept.refl _ _).alloc _)).appended ha); clear ha hcx
          have hcx : w1.cell? ⟨b, off + k, none⟩ = some (.int .u8 (c : Int)) := (World.cell?_of_block (HO1.out.2.block b hb id)).trans HX.out
          by_cases h0 : c = 0
          · subst h0
            go_wp2
            go_roundg (gk - 1)
            case measure => omega
            case rel => exact ⟨k + 1, z + 1, done ++ [0], by have := HK.out; omega, by go_num, by go_num, by omega, HO1.out, HE.out, by simp; omega⟩
          · have hc0 : (((c : Nat) : Int) != 0) = true := by simp; omega
            go_wp2
            go_roundg (gk - 1)
            case measure => omega
            case rel => exact ⟨k + 1, 0, done ++ [c], by have := HK.out; omega, by go_num, rfl, by omega, HO1.out, by have := HE.out; rwa [cnt_pos z c h0] at this, by simp; omega⟩
    · have ek : k = n := by omega
      subst ek
      have hdr : l.drop k = [] := List.drop_eq_nil_of_le (by rw [HN.out]; exact Nat.le_refl _)
      rw [hdr] at HD
      clear hdr
      by_cases hz2 : z = 2
      · subst hz2
        go_wp2_with (at_builtin; refine wpList_append_bytes _ rfl (.tmp 27) (.tmp 28) rfl w.heap.size _ _ done [3] rfl (HO.out.1.all ((Kept.refl _ _).alloc _)) rfl (BytesArg.box _ 3 (by decide)) (by simp; omega) (by have := HO.out.2.size; simp; omega) ?_)
        intro v1 w1 ha
        have HO1 := Lib.hid ((HO.out.all ((Kept.refl _ _).alloc _)).appended ha); clear ha
        go_wp2
        go_ret
        refine ⟨_, rfl, ?_⟩
        rw [← HD.out, esc_nil2]; exact HO1.out
      · have hb2 : (((z : Nat) : Int) == 2) = false := by simp; omega
        go_wp2
        go_ret
        refine ⟨_, rfl, ?_⟩
        rw [← HD.out, esc_nil z (by omega), List.append_nil]; exact HO.out
end Go.Proofs.Ytjhghgdmjajekaa
