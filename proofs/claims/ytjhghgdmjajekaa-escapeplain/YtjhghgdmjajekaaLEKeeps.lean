/- EscapeKeeps' walk. -/
import Derived.Test.YtjhghgdmjajekaaLETells
namespace Go.Proofs.Ytjhghgdmjajekaa
open Go.RowKit

/-- A row of bytes, of which one is written anew. -/
theorem Row.stored {w : World} {B g n cap : Nat} {l : List Nat} (h : Row w B (.slice (some ⟨g, 0, none⟩) n cap) l) (hn : l.length = n) (i x : Nat) (hx : x < 256) :
    Row (w.setCell ⟨g, i, none⟩ (.int .u8 (x : Int))) B (.slice (some ⟨g, 0, none⟩) n cap) (l.set i x) := by
  subst hn
  refine ⟨?_, ?_⟩
  · have := h.1.stored i (.int .u8 (x : Int))
    rw [List.length_set]
    have e : byteVals (l.set i x) = (byteVals l).set i (.int .u8 (x : Int)) := by simp [byteVals, List.map_set]
    rw [e]; exact this.1
  · intro y hy
    rcases List.mem_or_eq_of_mem_set hy with h1 | h1
    · exact h.2 y h1
    · subst h1; exact hx

theorem Row.head {w : World} {B n c : Nat} {a : Option Addr} {l : List Nat} (h : Row w B (.slice a n c) l) (hp : 0 < n) :
    ∃ g cur, a = some ⟨g, 0, none⟩ ∧ B ≤ g ∧ w.heap[g]? = some (.cells cur 5 (0, 0)) ∧ ∀ i, i < n → w.cell? ⟨g, i, none⟩ = some (.int .u8 (l.getD i 0 : Nat)) := by
  obtain ⟨b, off, e3, hb, hc⟩ := h.bytes.cells hp
  rcases h.1.2 with ⟨e4, _⟩ | ⟨g, cap4, cur, e4, hg, hh, _⟩
  · cases e4; cases e3
  · cases e4
    cases e3
    exact ⟨b, cur, rfl, hg, hh, fun i hi => by have := hc i hi; rwa [Nat.zero_add] at this⟩

theorem xor_lt (x : Nat) (h : x < 256) : ∃ y : Nat, y < 256 ∧ bits BinOp.xor IntKind.u8 (x : Int) 255 = (y : Int) := by
  have key : ∀ x : Fin 256, ∃ y : Fin 256, bits BinOp.xor IntKind.u8 (x.val : Int) 255 = (y.val : Int) := by decide +kernel
  obtain ⟨y, hy⟩ := key ⟨x, h⟩
  exact ⟨y.val, y.isLt, hy⟩

set_option maxHeartbeats 2000000 in
set_option maxRecDepth 100000 in
theorem keeps_walk (v : Value) (l : List Nat) (w : World) (h : BytesArg w v l) :
    Calls Try.prog 8 #[v] w fun e w' => e = .returned (.bool true) ∧ Below w.heap.size w w' := by
  have HA := Lib.hid h
  obtain ⟨a, cap, rfl, h1, h2, -⟩ := h
  unfold maxLen at h2
  generalize hN : l.length = n at *
  have HN := Lib.hid hN; clear hN
  by_cases h300 : 300 < n
  · go_enter Try.func8, Try.ntmps8
    go_wp2_with (fail)
    refine (awake_any _).mono ?_
    rintro e w1 ⟨rfl, hk⟩
    have KA := Lib.hid hk; clear hk
    go_wp2
    go_ret
    exact ⟨rfl, KA.out.fin⟩
  have hd300 : decide (300 < (n : Int)) = false := by simp; omega
  have hl : l.length < 500000 := by rw [HN.out]; omega
  have HL := Lib.hid hl; clear hl
  go_enter Try.func8, Try.ntmps8
  go_wp2_with (fail)
  refine (awake_any _).mono ?_
  rintro e w1 ⟨rfl, hk⟩
  have KA := Lib.hid hk; clear hk
  have hcv := (HA.out.all KA.out).text
  go_wp2_with (fail)
  clear hcv
  refine (escape_any _ l _ (HA.out.all KA.out) (by have := HL.out; omega)).mono ?_
  rintro e w2 ⟨v2, rfl, ho2⟩
  have hback := unesc_esc l 0 (by omega)
  have hlen2 := esc_length l 0 (by omega)
  rw [HN.out] at hlen2
  generalize esc 0 l = x at *
  have BACK := Lib.hid hback; clear hback
  have HX := Lib.hid ho2.1.bytes; have K2 := Lib.hid (KA.out.trans ho2.2 (fun _ _ x => x)); clear ho2 KA
  go_wp2_with (fail)
  refine (unescape_any _ x _ HX.out (by omega)).mono ?_
  rw [BACK.out]
  rintro e w3 ⟨v3, rfl, ho3⟩
  rw [show code (some l) = 0 from rfl]
  rw [show (some l).getD [] = l from rfl] at ho3
  obtain ⟨a3, c3, rfl⟩ := ho3.1.shape
  have HO3 := Lib.hid ho3; clear ho3
  rw [HN.out] at HO3
  have e0 := HN.out
  simp only [e0]
  clear e0
  go_wp2_with (fail)
  go_loopg [8] n (fun gg s wr => ∃ (i : Nat) (y : List Nat), i + gg = n ∧ s = .int .i64 (i : Int) ∧ y.length = n ∧ Own w2 wr (.slice a3 n c3) y)
  case atStart => exact ⟨0, l, by omega, rfl, HN.out, HO3.out⟩
  case round =>
    obtain ⟨i, y, hi, rfl, hyl, ho⟩ := hrel
    have HO := Lib.hid ho; clear ho
    have HI := Lib.hid hi
    have HYL := Lib.hid hyl; clear hyl
    by_cases hlt : i < n
    · obtain ⟨b, cur, rfl, hg, hh, hc⟩ := HO.out.1.head (by omega)
      have hgk : 0 < gk := by omega
      have c0 := hc i hlt
      have hx256 := getD_lt HO.out.1.2 i
      have f0 : wr.frozen? ⟨b, i, none⟩ = false := frozen_of_heap hh
      obtain ⟨z, hz, hxor⟩ := xor_lt _ hx256
      generalize y.getD i 0 = yi at *
      have HST := Lib.hid (HO.out.1.stored HYL.out i z hz)
      have HK := Lib.hid (HO.out.2.setCell ⟨b, i, none⟩ (fun hlt' => by exact absurd hlt' (by simpa using hg)) (.int .u8 (z : Int)))
      have HSL := Lib.hid (show (y.set i z).length = n by rw [List.length_set]; exact HYL.out)
      clear hc hh hi
      go_wp2
      go_roundg (gk - 1)
      case measure => omega
      case rel => exact ⟨i + 1, y.set i z, by have := HI.out; omega, by go_num, HSL.out, HST.out, HK.out⟩
    · have him : i ≤ n := by omega
      clear hi HI
      go_wp2_with (fail)
      refine (unescape_any _ x _ (HX.out.all HO.out.2) (by omega)).mono ?_
      rw [BACK.out]
      rintro e w5 ⟨v5, rfl, ho5⟩
      rw [show code (some l) = 0 from rfl]
      rw [show (some l).getD [] = l from rfl] at ho5
      have K5 := Lib.hid ((K2.out.trans HO.out.2 (fun _ _ x => x)).trans ho5.2 (fun _ _ x => x))
      have hcv1 := (HA.out.all K5.out).text
      have hcv2 := ho5.1.bytes.text
      clear ho5
      go_wp2
      go_ret
      exact ⟨rfl, K5.out.fin⟩
end Go.Proofs.Ytjhghgdmjajekaa
