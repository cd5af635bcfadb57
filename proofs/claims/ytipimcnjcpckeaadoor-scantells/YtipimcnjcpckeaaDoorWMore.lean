/- Blocks that are clamped: more of them. No program in it but arrays. -/
import Derived.Test.YtipimcnjcpckeaaDoorSb
import Derived.Test.YtipimcnjcpckeaaDoorWPure
namespace Go.Proofs.YtipimcnjcpckeaaDoor

theorem sameB_self (a : Nat → Int) : sameB a a = true := sameB_true fun _ _ => rfl
theorem clB_in {m : Int} {b : Nat → Int} (h : ∀ i, -m ≤ b i ∧ b i ≤ m) : clB m b = b := by funext i; exact cl_id m (b i) (h i).1 (h i).2
theorem clB_at (m : Int) (hm : 0 ≤ m) (b : Nat → Int) (i : Nat) : -m ≤ clB m b i ∧ clB m b i ≤ m := cl_le m (b i) hm
theorem clB_small {m : Int} (hm : 0 ≤ m ∧ m ≤ 1048576) (b : Nat → Int) : clB 1048576 (clB m b) = clB m b :=
  clB_in fun i => by have := clB_at m hm.1 b i; omega
theorem fwd_small {m : Int} (hm : 0 ≤ m ∧ 16 * m ≤ 1048576) (b : Nat → Int) : clB 1048576 (fwd (clB m b)) = fwd (clB m b) :=
  clB_in fun i => by have := fwd_le (clB m b) m (fun i _ => clB_at m hm.1 b i) i; omega
end Go.Proofs.YtipimcnjcpckeaaDoor
