/- find: where a start stands. -/
import Derived.Test.YtjhghgdmjajekaaUnR
namespace Go.Proofs.Ytjhghgdmjajekaa
open Go.RowKit

set_option maxHeartbeats 2000000 in
theorem find_any (v : Value) (l : List Nat) (frm : Nat) (w : World) (h : BytesArg w v l) (hf : frm ≤ l.length) (hl : l.length < 68719476736) :
    Calls Try.prog 22 #[v, .int .i64 (frm : Int)] w fun e w' => e = .returned (.int .i64 ((frm + far (l.drop frm) : Nat) : Int)) ∧ Kept (fun _ => False) w w' := by
  obtain ⟨a, cap, rfl, h1, h2, h3, -, hc⟩ := h
  have HC := Lib.hid hc; clear hc h1 h2 h3
  generalize hN : l.length = n at *
  have HN := Lib.hid hN; clear hN
  generalize hR : frm + far (l.drop frm) = res
  have HR := Lib.hid hR; clear hR
  go_enter Try.func22, Try.ntmps22
  go_wp2
  go_step3
  go_wp2
  go_step3
  go_wp2
  go_loopg [5] (n - frm) (fun gg s wr => ∃ k : Nat, k + gg = n ∧ s = .int .i64 (k : Int) ∧ k + far (l.drop k) = res ∧ Kept (fun _ => False) w wr)
  case atStart => exact ⟨frm, by omega, rfl, HR.out, Kept.refl _ _⟩
  case round =>
    obtain ⟨k, hk, rfl, hres, hkept⟩ := hrel
    have HK := Lib.hid hk
    have HS := Lib.hid hres; clear hres
    have HP := Lib.hid hkept; clear hkept
    obtain ⟨G, hG⟩ : ∃ G, G = gk := ⟨_, rfl⟩
    subst hG
    by_cases hlt : k + 3 ≤ n
    · obtain ⟨b, off, rfl, hb, hcell⟩ := HC.out (by omega)
      have hst := isStart_at l k
      rw [HN.out] at hst
      have c0 := hcell k (by omega)
      have c1 := hcell (k + 1) (by omega)
      have c2 := hcell (k + 2) (by omega)
      have hfs := fun h => far_step l k (by rw [HN.out]; omega) h
      generalize l.getD k 0 = x0 at *
      generalize l.getD (k + 1) 0 = x1 at *
      generalize l.getD (k + 2) 0 = x2 at *
      clear hcell hk
      have HST := Lib.hid hst; clear hst
      have HFS := Lib.hid hfs; clear hfs
      have C0 := Lib.hid c0; have C1 := Lib.hid c1; have C2 := Lib.hid c2; clear c0 c1 c2
      have hG : 0 < G := by have := HK.out; omega
      have hdec : decide ((k : Int) + 3 ≤ (n : Int)) = true := by simp; omega
      have s0 : ((({ data := #[0, 0, 1] } : ByteArray)[0]).toNat : Int) = 0 := rfl
      have s1 : ((({ data := #[0, 0, 1] } : ByteArray)[1]).toNat : Int) = 0 := rfl
      have s2 : ((({ data := #[0, 0, 1] } : ByteArray)[2]).toNat : Int) = 1 := rfl
      go_wp2_with (fail)
      go_loopg [15] 3 (fun gg s wr => ∃ i : Nat, i + gg = 3 ∧ s = .int .i64 (i : Int) ∧ (1 ≤ i → x0 = 0) ∧ (2 ≤ i → x1 = 0) ∧ (3 ≤ i → x2 = 1) ∧ Kept (fun _ => False) w wr)
      case atStart => exact ⟨0, rfl, rfl, by omega, by omega, by omega, HP.out⟩
      case round =>
        obtain ⟨i, hi, rfl, h0, h1, h2, hkept⟩ := hrel
        clear HP
        have HP := Lib.hid hkept; clear hkept
        have c0 := (World.cell?_of_block (a := ⟨b, off + k, none⟩) (HP.out.block b hb id)).trans C0.out
        have c1 := (World.cell?_of_block (a := ⟨b, off + (k + 1), none⟩) (HP.out.block b hb id)).trans C1.out
        have c2 := (World.cell?_of_block (a := ⟨b, off + (k + 2), none⟩) (HP.out.block b hb id)).trans C2.out
        have hi4 : i = 0 ∨ i = 1 ∨ i = 2 ∨ i = 3 := by omega
        rcases hi4 with rfl | rfl | rfl | rfl
        · skip
          clear h0 h1 h2 c1 c2
          by_cases hx : x0 = 0
          · subst hx
            go_wp2_with (fail)
            go_quiet (fail)
            go_wp2
            go_roundg 2
            case measure => omega
            case rel => exact ⟨1, rfl, rfl, by simp, by omega, by omega, HP.out.drewN _⟩
          · have hxb : (((x0 : Nat) : Int) != 0) = true := by simp; omega
            have hns : isStart (l.drop k) = false := by rw [HST.out]; simp [hx]
            have hfar := HFS.out hns
            have he : k + 1 + far (l.drop (k + 1)) = res := by rw [← HS.out, hfar]; omega
            have HE := Lib.hid he
            clear hns hfar he
            go_wp2_with (fail)
            go_quiet (fail)
            go_wp2
            go_roundg (G - 1)
            case measure => omega
            case rel => exact ⟨k + 1, by have := HK.out; omega, by go_num, HE.out, HP.out.drewN _⟩
        · have H0 := Lib.hid (h0 (by omega))
          clear h0 h1 h2 c0 c2
          by_cases hx : x1 = 0
          · subst hx
            go_wp2_with (fail)
            go_quiet (fail)
            go_wp2
            go_roundg 1
            case measure => omega
            case rel => exact ⟨2, rfl, rfl, fun _ => H0.out, by simp, by omega, HP.out.drewN _⟩
          · have hxb : (((x1 : Nat) : Int) != 0) = true := by simp; omega
            have hns : isStart (l.drop k) = false := by rw [HST.out]; simp [hx]
            have hfar := HFS.out hns
            have he : k + 1 + far (l.drop (k + 1)) = res := by rw [← HS.out, hfar]; omega
            have HE := Lib.hid he
            clear hns hfar he
            go_wp2_with (fail)
            go_quiet (fail)
            go_wp2
            go_roundg (G - 1)
            case measure => omega
            case rel => exact ⟨k + 1, by have := HK.out; omega, by go_num, HE.out, HP.out.drewN _⟩
        · have H0 := Lib.hid (h0 (by omega))
          have H1 := Lib.hid (h1 (by omega))
          clear h0 h1 h2 c0 c1
          by_cases hx : x2 = 1
          · subst hx
            go_wp2_with (fail)
            go_quiet (fail)
            go_wp2
            go_roundg 0
            case measure => omega
            case rel => exact ⟨3, rfl, rfl, fun _ => H0.out, fun _ => H1.out, by simp, HP.out.drewN _⟩
          · have hxb : (((x2 : Nat) : Int) != 1) = true := by simp; omega
            have hns : isStart (l.drop k) = false := by rw [HST.out]; simp [hx]
            have hfar := HFS.out hns
            have he : k + 1 + far (l.drop (k + 1)) = res := by rw [← HS.out, hfar]; omega
            have HE := Lib.hid he
            clear hns hfar he
            go_wp2_with (fail)
            go_quiet (fail)
            go_wp2
            go_roundg (G - 1)
            case measure => omega
            case rel => exact ⟨k + 1, by have := HK.out; omega, by go_num, HE.out, HP.out.drewN _⟩
        · have hs : isStart (l.drop k) = true := by rw [HST.out]; simp [hlt, h0 (by omega), h1 (by omega), h2 (by omega)]
          have he : res = k := by rw [← HS.out, far_start hs]; rfl
          subst he
          clear hs h0 h1 h2 c0 c1 c2
          go_wp2
          try rw [Exit.noGoto_ret]
          go_ret
          exact ⟨rfl, HP.out⟩
    · have hks : (l.drop k).length < 3 := by simp; have := HN.out; omega
      have hfar := far_short hks
      have hn : res = n := by rw [← HS.out, hfar]; have := HN.out; have := HK.out; simp; omega
      subst hn
      clear hks hfar
      go_wp2
      try rw [Exit.noGoto_ret]
      go_ret
      exact ⟨rfl, HP.out⟩
end Go.Proofs.Ytjhghgdmjajekaa
