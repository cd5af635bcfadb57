/- BitsLost's walk. -/
import Derived.Test.YtbfmjomekkcpcaaArgs
namespace Go.Proofs.Ytbfmjomekkcpcaa
open Go.RowKit

theorem rdStep_next {l : List Nat} {a : Nat} (h : a < 8 * l.length) : rdStep (nextAt l) (some a) = (((bitAt l a).toNat : Int), some (a + 1)) := by
  simp [rdStep, nextAt, h]
theorem rdStep_next_end {l : List Nat} {a : Nat} (h : ¬ a < 8 * l.length) : rdStep (nextAt l) (some a) = (0, none) := by
  simp [rdStep, nextAt, h]

theorem bit_of_byte2 (x k : Nat) : bits BinOp.and IntKind.i64 ((x : Int) / 2 ^ k) 1 = ((x.testBit k).toNat : Int) := by
  rw [i64_and1]
  have e : ((x : Int) / 2 ^ k) = ((x / 2 ^ k : Nat) : Int) := by simp
  rw [e, Nat.toNat_testBit]; omega

set_option maxHeartbeats 1000000 in
set_option maxRecDepth 100000 in
theorem lost_walk (v : Value) (l : List Nat) (k most : Int) (w : World) (h : BytesArg w v l) (hm : l.length ≤ maxLen) :
    Calls Try.prog 6 #[v, .int .i64 k, .int .i64 most] w fun e w' => e = .returned (.bool true) ∧ Below w.heap.size w w' := by
  unfold maxLen at hm
  have HA := Lib.hid h
  obtain ⟨a, cap, rfl, hx, hc⟩ := h
  have HC := Lib.hid hc; clear hc
  have HX := Lib.hid hx; clear hx
  generalize hN : l.length = n at *
  have HN := Lib.hid hN; clear hN
  by_cases h300 : 300 < n
  · go_enter Try.func6, Try.ntmps6
    go_wp2_with (fail)
    refine (awake_any _).mono ?_
    rintro e w1 ⟨rfl, hk⟩
    have KA := Lib.hid hk; clear hk
    go_wp2
    go_ret
    exact ⟨rfl, KA.out.all⟩
  · go_enter Try.func6, Try.ntmps6
    go_wp2_with (fail)
    refine (awake_any _).mono ?_
    rintro e w1 ⟨rfl, hk⟩
    have KA := Lib.hid hk; clear hk
    go_wp2_with (fail)
    have hl : l.length < 1099511627776 := by rw [HN.out]; omega
    have HF := Lib.hid (HA.out.fair hl)
    have hargs := (HA.out.kept KA.out (fun _ _ x => x)).slice
    refine (new_rdr hl hargs KA.out).mono ?_
    rintro e w2 ⟨p, g, rfl, hr, -, -, -⟩
    have HR := Lib.hid hr; clear hr hargs hl
    go_wp2_with (fail)
    go_loopw [9] (fun s wr => ∃ i : Nat, i ≤ 8 * n ∧ s = .int .i64 (i : Int) ∧ Rdr w wr p g l (some i)) (fun s _ => 8 * n - (intOf s).toNat)
    case atStart => exact ⟨0, by omega, rfl, HR.out⟩
    case round =>
      obtain ⟨i, hi, rfl, hri⟩ := hrel
      have HRI := Lib.hid hri; clear hri HR
      by_cases hlt : i < 8 * n
      · go_wp2_with (fail)
        refine (rbit_rdr HF.out HRI.out).mono ?_
        rw [rdStep_next (by rw [HN.out]; exact hlt)]
        rintro e w3 ⟨rfl, hr3⟩
        dsimp only at hr3 ⊢
        obtain ⟨b, off, rfl, hb, hcell⟩ := HC.out (by omega)
        have hcx : w3.cell? ⟨b, off + i / 8, none⟩ = some (.int .u8 (l.getD (i / 8) 0 : Nat)) :=
          (World.cell?_of_block (hr3.2.2.2.block b hb id)).trans (hcell (i / 8) (by omega))
        have hbit := bit_of_byte2 (l.getD (i / 8) 0) (7 - i % 8)
        have e2 : bitAt l i = (l.getD (i / 8) 0).testBit (7 - i % 8) := rfl
        rw [← e2] at hbit
        have hx256 := HF.out.getD (i / 8)
        have HR3 := Lib.hid hr3; clear hr3 hcell e2
        generalize l.getD (i / 8) 0 = x at *
        have hq1 : 0 ≤ (i : Int) / 8 := by omega
        have hq2 : (i : Int) / 8 < n := by omega
        have hq3 : ((i : Int) / 8).toNat = i / 8 := by omega
        generalize hB : bitAt l i = bb at *
        have hw : wrap64 ((x : Int) / 2 ^ (7 - i % 8)) = (x : Int) / 2 ^ (7 - i % 8) := by
          have e : ((x : Int) / 2 ^ (7 - i % 8)) = ((x / 2 ^ (7 - i % 8) : Nat) : Int) := by simp
          have hle : x / 2 ^ (7 - i % 8) ≤ x := Nat.div_le_self _ _
          rw [e]; generalize x / 2 ^ (7 - i % 8) = y at hle ⊢; unfold wrap64; omega
        have hne : (((bb.toNat : Nat) : Int) != bits BinOp.and IntKind.i64 (wrap64 ((x : Int) / 2 ^ (7 - i % 8))) 1) = false := by rw [hw, hbit]; simp
        clear hw
        clear hbit hB
        go_wp2
        go_roundw
        case rel => exact ⟨i + 1, by omega, by go_num, HR3.out⟩
        case measure => simp [intOf]; omega
      · have ei : i = 8 * n := by omega
        subst ei
        go_wp2_with (fail)
        refine (rbit_rdr HF.out HRI.out).mono ?_
        rw [rdStep_next_end (by rw [HN.out]; omega)]
        rintro e w3 ⟨rfl, hr3⟩
        have HR3 := Lib.hid hr3; clear hr3 HRI
        go_wp2_with (fail)
        refine (rfixed_rdr k HF.out HR3.out).mono ?_
        rintro e w4 ⟨rfl, hr4⟩
        have HR4 := Lib.hid hr4; clear hr4 HR3
        go_wp2_with (fail)
        refine (rwhole_rdr most HF.out HR4.out).mono ?_
        rintro e w5 ⟨rfl, hr5⟩
        have HR5 := Lib.hid hr5; clear hr5 HR4
        go_wp2_with (fail)
        refine (rsigned_rdr most HF.out HR5.out).mono ?_
        rintro e w6 ⟨rfl, hr6⟩
        have HR6 := Lib.hid hr6; clear hr6 HR5
        simp only [rdStep]
        go_wp2_with (fail)
        refine (rbit_rdr HF.out HR6.out).mono ?_
        rintro e w7 ⟨rfl, hr7⟩
        have HR7 := Lib.hid hr7; clear hr7 HR6
        simp only [rdStep]
        go_wp2_with (fail)
        refine (done_rdr HF.out HR7.out).mono ?_
        rintro e w8 ⟨rfl, hr8⟩
        have HR8 := Lib.hid hr8; clear hr8 HR7
        simp only [rdStep, doneOf]
        go_wp2
        go_ret
        exact ⟨rfl, HR8.out.2.2.2.all⟩

theorem lost_row {a : Option Addr} {len cap : Nat} {zs : List Int} (k most : Int) (w : World)
    (h : (a = none ∧ len = 0 ∧ cap = 0 ∧ zs = []) ∨ ∃ x, a = some x ∧ len ≤ cap ∧ cap ≤ maxLen ∧ zs.length = cap ∧ (∀ i, i < zs.length → w.cell? (x.add i) = some (.int .u8 (zs.getD i 0))) ∧ ∀ n ∈ zs, (Lit.int .u8 n).wf = true) :
    Calls Try.prog 6 #[.slice a len cap, .int .i64 k, .int .i64 most] w fun e w' => e = .returned (.bool true) ∧ Below w.heap.size w w' := by
  obtain ⟨l, hl, hb⟩ := BytesArg.of_row h
  refine lost_walk _ l k most w hb ?_
  rw [hl]
  rcases h with ⟨_, h, _⟩ | ⟨x, _, h1, h2, _⟩
  · rw [h]; exact Nat.zero_le _
  · exact Nat.le_trans h1 h2
end Go.Proofs.Ytbfmjomekkcpcaa
