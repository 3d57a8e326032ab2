/- The contract of the program's over. -/
import Derived.Test.YtkligdaademakaaLProg2
namespace Go.Proofs.Ytkligdaademakaa
open Go.RowKit Go.Maps Go.WideMaps

set_option maxHeartbeats 1000000 in
set_option maxRecDepth 100000 in
theorem lOver_any (w : World) (v : Nat) (most : Int) (hm1 : -9223372036854775808 ≤ most) (hm2 : most ≤ 9223372036854775807) :
    Calls Try.prog 84 #[.int .u64 v, .int .i64 most] w fun e w' => e = .returned (.bool (decide (most < 0 ∨ most < (v : Int)))) ∧ w' = w := by
  by_cases hm : most < 0
  · have d1 : decide (most < 0) = true := by simpa using hm
    rw [decide_eq_true (Or.inl hm)]
    go_enter Try.func84, Try.ntmps84
    go_wp2
    go_ret
    exact ⟨rfl, rfl⟩
  · have d1 : decide (most < 0) = false := by simpa using hm
    have hwm : IntKind.u64.wrap most = most := by rw [IntKind.wrap_u64]; omega
    have e : decide (most < 0 ∨ most < (v : Int)) = decide (most < (v : Int)) := by
      by_cases h : most < (v : Int) <;> simp [h, hm]
    rw [e]
    clear e hm
    go_enter Try.func84, Try.ntmps84
    go_wp2
    go_ret
    exact ⟨rfl, rfl⟩
end Go.Proofs.Ytkligdaademakaa
