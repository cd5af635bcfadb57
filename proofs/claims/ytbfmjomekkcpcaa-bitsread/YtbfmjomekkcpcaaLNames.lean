/- BitsNames' walk. -/
import Derived.Test.YtbfmjomekkcpcaaAwake
namespace Go.Proofs.Ytbfmjomekkcpcaa
open Go.RowKit

theorem Kept.all {w w' : World} (h : Kept (fun _ => False) w w') : Below w.heap.size w w' := h.below (Nat.le_refl _) (fun _ _ x => x)

theorem names_walk (w : World) :
    Calls Try.prog 3 #[] w fun e w' => e = .returned (.bool true) ∧ Below w.heap.size w w' := by
  go_enter Try.func3, Try.ntmps3
  go_wp2_with (fail)
  refine (awake_any _).mono ?_
  rintro e w1 ⟨rfl, hk⟩
  have HK := Lib.hid hk; clear hk
  go_wp2
  go_ret
  exact ⟨rfl, HK.out.all⟩

set_option maxHeartbeats 1000000 in
theorem nil_walk (n k : Int) (w : World) :
    Calls Try.prog 7 #[.int .i64 n, .int .i64 k] w fun e w' => e = .returned (.bool true) ∧ Below w.heap.size w w' := by
  go_enter Try.func7, Try.ntmps7
  go_wp2_with (fail)
  refine (awake_any _).mono ?_
  rintro e w1 ⟨rfl, hk⟩
  have HK := Lib.hid hk; clear hk
  go_wp2_with (first
    | (go_at_call 32; refine (bit_nil _ _).mono ?_; rintro e w' ⟨rfl, rfl⟩)
    | (go_at_call 33; refine (fixed_nil _ _ _).mono ?_; rintro e w' ⟨rfl, rfl⟩)
    | (go_at_call 34; refine (whole_nil _ _).mono ?_; rintro e w' ⟨rfl, rfl⟩)
    | (go_at_call 35; refine (signed_nil _ _).mono ?_; rintro e w' ⟨rfl, rfl⟩)
    | (go_at_call 36; refine (end_nil _).mono ?_; rintro e w' ⟨rfl, rfl⟩)
    | (go_at_call 17; refine (bytes_nil _).mono ?_; rintro e w' ⟨rfl, rfl⟩)
    | (go_at_call 19; refine (many_nil _).mono ?_; rintro e w' ⟨rfl, rfl⟩))
  refine (rbit_nil _).mono ?_
  rintro e w2 ⟨rfl, h2⟩
  have H2 := Lib.hid (HK.out.trans h2 (fun _ _ x => x)); clear h2 HK
  go_wp2_with (fail)
  refine (rfixed_nil _ _).mono ?_
  rintro e w3 ⟨rfl, h3⟩
  have H3 := Lib.hid (H2.out.trans h3 (fun _ _ x => x)); clear h3 H2
  go_wp2_with (fail)
  refine (rwhole_nil _ _).mono ?_
  rintro e w4 ⟨rfl, h4⟩
  have H4 := Lib.hid (H3.out.trans h4 (fun _ _ x => x)); clear h4 H3
  go_wp2_with (fail)
  refine (rsigned_nil _ _).mono ?_
  rintro e w5 ⟨rfl, h5⟩
  have H5 := Lib.hid (H4.out.trans h5 (fun _ _ x => x)); clear h5 H4
  go_wp2_with (first
    | (go_at_call 30; refine (done_nil _).mono ?_; rintro e w' ⟨rfl, rfl⟩)
    | (go_at_call 29; refine (lost_nil _).mono ?_; rintro e w' ⟨rfl, rfl⟩))
  go_ret
  exact ⟨rfl, H5.out.all⟩
end Go.Proofs.Ytbfmjomekkcpcaa
