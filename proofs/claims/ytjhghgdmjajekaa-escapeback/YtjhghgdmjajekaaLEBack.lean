/- EscapeBack's walk. -/
import Derived.Test.YtjhghgdmjajekaaLETells
namespace Go.Proofs.Ytjhghgdmjajekaa
open Go.RowKit

set_option maxHeartbeats 2000000 in
set_option maxRecDepth 100000 in
theorem back_walk (v : Value) (l : List Nat) (w : World) (h : BytesArg w v l) :
    Calls Try.prog 5 #[v] w fun e w' => e = .returned (.bool true) ∧ Below w.heap.size w w' := by
  have HA := Lib.hid h
  obtain ⟨a, cap, rfl, h1, h2, -⟩ := h
  unfold maxLen at h2
  generalize hN : l.length = n at *
  have HN := Lib.hid hN; clear hN
  by_cases h500 : 500 < n
  · go_enter Try.func5, Try.ntmps5
    go_wp2_with (fail)
    refine (awake_any _).mono ?_
    rintro e w1 ⟨rfl, hk⟩
    have KA := Lib.hid hk; clear hk
    go_wp2
    go_ret
    exact ⟨rfl, KA.out.fin⟩
  have hd500 : decide (500 < (n : Int)) = false := by simp; omega
  have hl : l.length < 500000 := by rw [HN.out]; omega
  have HL := Lib.hid hl; clear hl
  go_enter Try.func5, Try.ntmps5
  go_wp2_with (fail)
  refine (awake_any _).mono ?_
  rintro e w1 ⟨rfl, hk⟩
  have KA := Lib.hid hk; clear hk
  go_wp2_with (fail)
  refine (escape_any _ l _ (HA.out.all KA.out) (by have := HL.out; omega)).mono ?_
  rintro e w2 ⟨v2, rfl, ho2⟩
  have hcalm := esc_calm l 0 (by omega)
  have hback := unesc_esc l 0 (by omega)
  have hlen1 := esc_length_ge l 0
  have hlen2 := esc_length l 0 (by omega)
  rw [HN.out] at hlen1 hlen2
  generalize esc 0 l = x at *
  have CALM := Lib.hid hcalm; clear hcalm
  have BACK := Lib.hid hback; clear hback
  obtain ⟨ax, cx, rfl⟩ := ho2.1.shape
  have HX := Lib.hid ho2.1.bytes; have K2 := Lib.hid (KA.out.trans ho2.2 (fun _ _ x => x)); clear ho2 KA
  go_wp2_with (fail)
  refine (unescape_any _ x _ HX.out (by omega)).mono ?_
  rw [BACK.out]
  rintro e w3 ⟨v3, rfl, ho3⟩
  rw [show code (some l) = 0 from rfl]
  have hx3 := HX.out.all ho3.2
  have hy3 := ho3.1.bytes.text
  have K3 := Lib.hid (K2.out.trans ho3.2 (fun _ _ x => x))
  have hb3 := (HA.out.all K3.out).text
  have hcell := hx3.cells
  clear hx3
  have HY := Lib.hid hy3; have HB := Lib.hid hb3; have HC := Lib.hid hcell; clear hy3 hb3 hcell ho3 HX K2 HA
  generalize hM : x.length = m at *
  have HM := Lib.hid hM; clear hM
  have hm1 : m ≤ 1000 := by omega
  go_wp2_with (fail)
  go_loopg [7] m (fun gg s wr => ∃ i : Nat, i + gg = m ∧ s = .int .i64 (i : Int) ∧ w3 = wr)
  case atStart => exact ⟨0, by omega, rfl, rfl⟩
  case round =>
    obtain ⟨i, hi, rfl, rfl⟩ := hrel
    have HI := Lib.hid hi
    by_cases hlt : i + 1 < m
    · obtain ⟨b, off, rfl, hb, hc⟩ := HC.out (by omega)
      have c0 := hc i (by omega)
      have c1 := hc (i + 1) (by omega)
      have hat := calm_at x 0 i CALM.out (by rw [HM.out]; exact hlt)
      rw [HM.out] at hat
      have hgk : 0 < gk := by omega
      have c2 : i + 2 < m → w3.cell? ⟨b, off + (i + 2), none⟩ = some (.int .u8 (x.getD (i + 2) 0 : Nat)) := fun h => hc (i + 2) h
      have C2 := Lib.hid c2
      generalize x.getD i 0 = x0 at *
      generalize x.getD (i + 1) 0 = x1 at *
      generalize x.getD (i + 2) 0 = x2 at *
      clear hc hi c2
      have HAT := Lib.hid hat; clear hat
      by_cases h0 : x0 = 0
      · subst h0
        by_cases h1' : x1 = 0
        · subst h1'
          obtain ⟨hq1, hq2⟩ := HAT.out rfl rfl
          have hc2 := C2.out hq1
          have hne : ((((i : Nat) : Int) + 2) == (m : Int)) = false := by simp; omega
          go_wp2
          go_roundg (gk - 1)
          case measure => omega
          case rel => exact ⟨i + 1, by have := HI.out; omega, by go_num, rfl⟩
        · have hb1 : (((x1 : Nat) : Int) == 0) = false := by simp; omega
          go_wp2
          go_roundg (gk - 1)
          case measure => omega
          case rel => exact ⟨i + 1, by have := HI.out; omega, by go_num, rfl⟩
      · have hb0 : (((x0 : Nat) : Int) == 0) = false := by simp; omega
        go_wp2
        go_roundg (gk - 1)
        case measure => omega
        case rel => exact ⟨i + 1, by have := HI.out; omega, by go_num, rfl⟩
    · have hcv1 := HY.out
      have hcv2 := HB.out
      rw [show (some l).getD [] = l from rfl] at hcv1
      have hs1 : decide ((n : Int) ≤ (m : Int)) = true := by simp; omega
      have hs2 : decide ((m : Int) ≤ (n : Int) + (n : Int) / 2 + 1) = true := by simp; omega
      have him : i ≤ m := by omega
      clear HI hi
      go_wp2
      go_ret
      exact ⟨rfl, K3.out.fin⟩
end Go.Proofs.Ytjhghgdmjajekaa
