/- The document's Same, of lists that are alike. -/
import Derived.Test.YtjhghgdmjajekaaLEPlain
namespace Go.Proofs.Ytjhghgdmjajekaa
open Go.RowKit

set_option maxHeartbeats 1000000 in
theorem same_true (va vb : Value) (us : List (List Nat)) (w : World) (ha : UnitsArg w va us) (hb : UnitsArg w vb us) (hl : us.length < 4294967296) :
    Calls Try.prog 16 #[va, vb] w fun e w' => e = .returned (.bool true) ∧ Kept (fun _ => False) w w' := by
  have HA := Lib.hid ha; have HB := Lib.hid hb
  obtain ⟨aa, ac, rfl, -⟩ := ha
  obtain ⟨ba, bc, rfl, -⟩ := hb
  generalize hN : us.length = n at *
  have HN := Lib.hid hN; clear hN
  go_enter Try.func16, Try.ntmps16
  go_wp2_with (fail)
  go_loopg [5] n (fun gg s wr => ∃ i : Nat, i + gg = n ∧ s = .int .i64 (i : Int) ∧ Kept (fun _ => False) w wr)
  case atStart => exact ⟨0, by omega, rfl, Kept.refl _ _⟩
  case round =>
    obtain ⟨i, hi, rfl, hk⟩ := hrel
    have HI := Lib.hid hi
    have HK := Lib.hid hk; clear hk
    by_cases hlt : i < n
    · obtain ⟨b1, o1, rfl, hb1, hc1⟩ := (HA.out.all HK.out).cells (by omega)
      obtain ⟨b2, o2, rfl, hb2, hc2⟩ := (HB.out.all HK.out).cells (by omega)
      obtain ⟨x1, z1, cc1, bb1⟩ := hc1 i hlt
      obtain ⟨x2, z2, cc2, bb2⟩ := hc2 i hlt
      have t1 := fun m => (bb1.all ((Kept.refl _ wr).drewN m)).text
      have t2 := fun m => (bb2.all ((Kept.refl _ wr).drewN m)).text
      have hgk : 0 < gk := by omega
      clear hc1 hc2 hi bb1 bb2 hb1 hb2
      generalize us.getD i [] = u at *
      generalize u.length = lu at *
      go_wp2_with (fail)
      go_quiet (fail)
      clear t1 t2
      go_wp2
      go_roundg (gk - 1)
      case measure => omega
      case rel => exact ⟨i + 1, by have := HI.out; omega, by go_num, HK.out.drewN _⟩
    · have him : i ≤ n := by omega
      clear hi HI
      go_wp2
      go_ret
      exact ⟨rfl, HK.out⟩
end Go.Proofs.Ytjhghgdmjajekaa
