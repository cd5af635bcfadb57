/- Unescape: what the code brings back, and what the document does. -/
import Derived.Test.YtjhghgdmjajekaaEs
namespace Go.Proofs.Ytjhghgdmjajekaa
open Go.RowKit

theorem BytesArg.cut {w : World} {a : Option Addr} {len cap : Nat} {l : List Nat} (h : BytesArg w (.slice a len cap) l) (i j cap' : Nat) (hi : i ≤ j) (hj : j ≤ l.length) (hc : j - i ≤ cap') (hm : cap' ≤ maxLen) (a' : Option Addr)
    (ha : 0 < j - i → a' = a.map (·.add i)) (h0 : a' = none → cap' = 0) : BytesArg w (.slice a' (j - i) cap') ((l.drop i).take (j - i)) := by
  obtain ⟨a2, cap2, e, h1, h2, h3, h256, hcell⟩ := h
  cases e
  have hl : ((l.drop i).take (j - i)).length = j - i := by simp; omega
  refine ⟨a', cap', by rw [hl], by rw [hl]; exact hc, hm, h0, fun x hx => h256 x (List.mem_of_mem_drop (List.mem_of_mem_take hx)), fun hpos => ?_⟩
  rw [hl] at hpos
  obtain ⟨b, off, rfl, hb, hx⟩ := hcell (by omega)
  refine ⟨b, off + i, by rw [ha hpos]; simp [Addr.add_lit], hb, fun t ht => ?_⟩
  rw [hl] at ht
  have e1 := hx (i + t) (by omega)
  rw [Nat.add_assoc, e1]
  have ht2 : t < j - i := ht
  simp [List.getD, ht2]

set_option maxHeartbeats 400000 in
theorem cut_any (v : Value) (l : List Nat) (i j : Nat) (w0 w : World) (h : BytesArg w0 v l) (hi : i ≤ j) (hj : j ≤ l.length) :
    Calls Try.prog 21 #[v, .int .i64 (i : Int), .int .i64 (j : Int)] w fun e w' => ∃ v', e = .returned v' ∧ BytesArg w0 v' ((l.drop i).take (j - i)) ∧ w = w' := by
  have H := Lib.hid h
  obtain ⟨a, cap, rfl, h1, h2, h3, -, -⟩ := h
  unfold maxLen at h2
  by_cases hij : j = i
  · subst hij
    go_enter Try.func21, Try.ntmps21
    go_wp2
    go_ret
    refine ⟨_, rfl, ?_, rfl⟩
    have := H.out.cut j j 0 (Nat.le_refl _) hj (by omega) (Nat.zero_le _) a (by omega) (fun _ => rfl)
    rw [Nat.sub_self] at this ⊢
    exact this
  · have hne : ¬ j - i = 0 := by omega
    have hcm : j - i ≤ maxLen := by unfold maxLen; omega
    have hn : Option.map (fun x : Addr => x.add i) a = none → j - i = 0 := by
      intro h
      have : a = none := by simpa using h
      have := h3 this
      omega
    have HH := Lib.hid (H.out.cut i j (j - i) hi hj (Nat.le_refl _) hcm (Option.map (fun x : Addr => x.add i) a) (fun _ => rfl) hn)
    clear hn h3
    go_enter Try.func21, Try.ntmps21
    go_wp2
    go_ret
    exact ⟨_, rfl, HH.out, rfl⟩

theorem needed_any (v : Value) (l : List Nat) (w : World) (h : BytesArg w v l) :
    Calls Try.prog 20 #[v] w fun e w' => e = .returned (.bool (need l)) ∧ w = w' := by
  obtain ⟨a, cap, rfl, h1, h2, h3, h256, hc⟩ := h
  cases l with
  | nil =>
    go_enter Try.func20, Try.ntmps20
    go_wp2
    go_ret
    exact ⟨rfl, rfl⟩
  | cons c r =>
    obtain ⟨b, off, rfl, hb, hcell⟩ := hc (by simp)
    have hx := hcell 0 (by simp)
    have hc256 := h256 c (by simp)
    simp only [Nat.add_zero, List.getD_cons_zero] at hx
    have hlen : (((c :: r).length : Nat) : Int) = (r.length : Int) + 1 := by simp
    have hn : need (c :: r) = decide (c ≤ 3) := rfl
    rw [hn]
    have hp : 0 < (c :: r).length := by simp
    generalize (c :: r).length = n at *
    clear hcell hn h256 hlen
    have hb0 : (((n : Nat) : Int) == 0) = false := by simp; omega
    go_enter Try.func20, Try.ntmps20
    go_wp2
    go_ret
    refine ⟨?_, rfl⟩
    show Ending.returned (.bool (decide ((c : Int) ≤ 3))) = _
    have e : decide ((c : Int) ≤ 3) = decide (c ≤ 3) := by rw [Bool.eq_iff_iff]; simp; omega
    rw [e]

/-- The number of an answer's error. -/
def code {α : Type} (r : Option α) : Int := if r.isSome then 0 else 20

/-- What a call that may make bytes leaves. -/
def MayB (w : World) (r : Option (List Nat)) (e : Ending) (w' : World) : Prop := ∃ v, e = .returned (.tuple #[v, .int .i64 (code r)]) ∧ Own w w' v (r.getD [])

theorem MayB.no {w w' : World} {r : Option (List Nat)} (h : r = none) (k : Kept (fun _ => False) w w') : MayB w r (.returned (.tuple #[.slice none 0 0, .int .i64 20])) w' := by
  subst h; exact ⟨_, rfl, Own.nil k⟩
theorem MayB.yes {w w' : World} {v : Value} {p : List Nat} {r : Option (List Nat)} (h : r = some p) (o : Own w w' v p) : MayB w r (.returned (.tuple #[v, .int .i64 0])) w' := by
  subst h; exact ⟨_, rfl, o⟩

set_option maxHeartbeats 1000000 in
theorem unescape_any (v : Value) (l : List Nat) (w : World) (h : BytesArg w v l) (hl : l.length < 68719476736) :
    Calls Try.prog 10 #[v] w (MayB w (unesc 0 l)) := by
  have h256 := h.lt256
  have HA := Lib.hid h
  obtain ⟨a, cap, rfl, h1, h2, h3, -, hc⟩ := h
  have HC := Lib.hid hc; clear hc h1 h2 h3
  have H256 := Lib.hid h256; clear h256
  generalize hN : l.length = n at *
  have HN := Lib.hid hN; clear hN
  go_enter Try.func10, Try.ntmps10
  go_wp2_with (fail)
  go_loopg [4, 5, 10] n (fun gg o zs i wr => ∃ (k z : Nat) (done : List Nat), k + gg = n ∧ i = .int .i64 (k : Int) ∧ zs = .int .i64 (z : Int) ∧ z ≤ 2 ∧ Own w wr o done ∧ (unesc z (l.drop k)).map (done ++ ·) = unesc 0 l ∧ done.length ≤ k)
  case atStart => exact ⟨0, 0, [], by omega, rfl, rfl, by omega, Own.nil (Kept.refl _ _), by simp, by simp⟩
  case round =>
    obtain ⟨k, z, done, hk, rfl, rfl, hz, ho, hd, hdl⟩ := hrel
    have HO := Lib.hid ho; clear ho
    have HD := Lib.hid hd; clear hd
    have HK := Lib.hid hk
    by_cases hlt : k < n
    · obtain ⟨b, off, rfl, hb, hcell⟩ := HC.out (by omega)
      have hx := hcell k hlt
      have hx256 := getD_lt H256.out k
      have hdr := drop_at (l := l) (k := k) (by rw [HN.out]; exact hlt)
      generalize l.getD k 0 = c at *
      have HDR := Lib.hid hdr; clear hdr hcell
      have hcx : wr.cell? ⟨b, off + k, none⟩ = some (.int .u8 (c : Int)) := (World.cell?_of_block (HO.out.2.block b hb id)).trans hx
      have hgk : 0 < gk := by omega
      clear hk hx
      by_cases hp : z < 2 ∨ 3 < c
      · have hcl := cnt_le z c hp
        have he : (unesc (cnt z c) (l.drop (k + 1))).map (done ++ [c] ++ ·) = unesc 0 l := by
          rw [← HD.out, HDR.out, unesc_plain z c _ hp]; simp [Function.comp_def]
        have HE := Lib.hid he; clear he
        by_cases hz2 : z < 2
        · clear hp
          go_wp2_with (at_builtin; refine wpList_append_bytes _ rfl (.tmp 21) (.tmp 23) rfl w.heap.size _ _ done [c] rfl (HO.out.1.all ((Kept.refl _ _).alloc _)) rfl (BytesArg.box _ c hx256) (by simp; omega) (by have := HO.out.2.size; simp; omega) ?_)
          intro v1 w1 ha
          have HO1 := Lib.hid ((HO.out.all ((Kept.refl _ _).alloc _)).appended ha); clear ha hcx
          go_wp2_with (fail)
          refine (count_any z c _ hz).mono ?_
          rintro e w3 ⟨rfl, rfl⟩
          generalize cnt z c = z' at *
          go_wp2
          go_roundg (gk - 1)
          case measure => omega
          case rel => exact ⟨k + 1, z', done ++ [c], by have := HK.out; omega, by go_num, rfl, hcl, HO1.out, HE.out, by simp; omega⟩
        · have hc3 : 3 < c := by omega
          have ez : z = 2 := by omega
          subst ez
          clear hp hz2
          go_wp2_with (at_builtin; refine wpList_append_bytes _ rfl (.tmp 21) (.tmp 23) rfl w.heap.size _ _ done [c] rfl (HO.out.1.all ((Kept.refl _ _).alloc _)) rfl (BytesArg.box _ c hx256) (by simp; omega) (by have := HO.out.2.size; simp; omega) ?_)
          intro v1 w1 ha
          have HO1 := Lib.hid ((HO.out.all ((Kept.refl _ _).alloc _)).appended ha); clear ha hcx
          go_wp2_with (fail)
          refine (count_any 2 c _ (by omega)).mono ?_
          rintro e w3 ⟨rfl, rfl⟩
          generalize cnt 2 c = z' at *
          go_wp2
          go_roundg (gk - 1)
          case measure => omega
          case rel => exact ⟨k + 1, z', done ++ [c], by have := HK.out; omega, by go_num, rfl, hcl, HO1.out, HE.out, by simp; omega⟩
      · have ez : z = 2 := by omega
        subst ez
        by_cases hc3 : c < 3
        · have he : unesc 0 l = none := by rw [← HD.out, HDR.out, unesc_bad c _ hc3]; rfl
          have HE := Lib.hid he
          clear he hp
          go_wp2
          go_ret2
          exact MayB.no HE.out HO.out.2
        · have ec : c = 3 := by omega
          subst ec
          clear hp hc3
          go_wp2_with (fail)
          have hcut := cut_any _ l (k + 1) n wr wr (HA.out.all HO.out.2) (by omega) (by rw [HN.out]; exact Nat.le_refl _)
          have HCut := Lib.hid hcut; clear hcut
          rw [show (((k + 1 : Nat)) : Int) = (k : Int) + 1 by omega] at HCut
          refine HCut.out.mono ?_
          rintro e w2 ⟨v2, rfl, hb2, rfl⟩
          have e3 : (l.drop (k + 1)).take (n - (k + 1)) = l.drop (k + 1) := List.take_of_length_le (by simp; have := HN.out; omega)
          rw [e3] at hb2
          have HB2 := Lib.hid hb2; clear hb2 e3 HCut
          go_wp2_with (fail)
          refine (needed_any v2 _ _ HB2.out).mono ?_
          rintro e w3 ⟨rfl, rfl⟩
          cases hnd : need (l.drop (k + 1)) with
          | true =>
            have he : (unesc 0 (l.drop (k + 1))).map (done ++ ·) = unesc 0 l := by rw [← HD.out, HDR.out, unesc_put _ hnd]
            have HE := Lib.hid he; clear he hnd
            go_wp2
            go_roundg (gk - 1)
            case measure => omega
            case rel => exact ⟨k + 1, 0, done, by have := HK.out; omega, by go_num, rfl, by omega, HO.out, HE.out, by omega⟩
          | false =>
            have he : unesc 0 l = none := by rw [← HD.out, HDR.out, unesc_vain _ hnd]; rfl
            have HE := Lib.hid he
            clear he hnd
            go_wp2
            go_ret2
            exact MayB.no HE.out HO.out.2
    · have ek : k = n := by omega
      subst ek
      have hdr : l.drop k = [] := List.drop_eq_nil_of_le (by rw [HN.out]; exact Nat.le_refl _)
      rw [hdr] at HD
      clear hdr
      by_cases hz2 : z = 2
      · subst hz2
        rw [unesc_nil2] at HD
        go_wp2
        go_ret2
        exact MayB.no HD.out.symm HO.out.2
      · have hb2 : (((z : Nat) : Int) == 2) = false := by simp; omega
        rw [unesc_nil z (by omega)] at HD
        go_wp2
        go_ret2
        exact MayB.yes (p := done) (by rw [← HD.out]; simp) HO.out
end Go.Proofs.Ytjhghgdmjajekaa
