/- Words of Put and Get, the document's and the program's. -/
import Derived.Test.YtdmhaaplgkilpaaKHead
import Derived.Test.YtdmhaaplgkilpaaLMath
import Derived.Laws.BitsAllLaws
import Derived.Deep.QuietTactic
import Derived.BigQuiet
namespace Go.Proofs.Ytdmhaaplgkilpaa
open Go.RowKit Go.Maps Go.WideMaps
set_option linter.unusedSimpArgs false

theorem and127_64 (m : Nat) (h : m < 18446744073709551616) : bits .and .u64 (m : Int) 127 = ((m % 128 : Nat) : Int) := by
  have := u64_and_nat m 127 h (by decide)
  rw [nat_mask7] at this
  exact this
theorem or128_64 (m : Nat) (h : m < 128) : bits .or .u64 (m : Int) 128 = ((m + 128 : Nat) : Int) := by
  have := u64_or_nat m 128 (by omega) (by decide)
  rw [Nat.or_comm, nat_join 7 128 m (by decide) (by omega), Nat.add_comm] at this
  exact this
theorem and127_8 (c : Nat) (h : c < 256) : bits .and .u8 (c : Int) 127 = ((c % 128 : Nat) : Int) := by
  have := u8_and_nat c 127 h (by decide)
  rw [nat_mask7] at this
  exact this
theorem shl_or (acc k c : Nat) (hacc : acc < 2 ^ (7 * k)) (hk : k ≤ 9) (h9 : k = 9 → c % 128 ≤ 1) :
    bits .or .u64 (acc : Int) (IntKind.u64.wrap ((c : Int) % 128 * 2 ^ (7 * k))) = ((acc + c % 128 * 2 ^ (7 * k) : Nat) : Int) := by
  have hp : 2 ^ (7 * k) ≤ 2 ^ 63 := Nat.pow_le_pow_right (by omega) (by omega)
  have hV : c % 128 * 2 ^ (7 * k) < 18446744073709551616 := by
    rcases Nat.lt_or_ge k 9 with h | h
    · have h1 : 2 ^ (7 * k) ≤ 2 ^ 56 := Nat.pow_le_pow_right (by omega) (by omega)
      have h2 := Nat.mul_le_mul (show c % 128 ≤ 127 by omega) h1
      omega
    · have h1 := Nat.mul_le_mul_right (2 ^ (7 * k)) (h9 (by omega))
      omega
  have e : IntKind.u64.wrap ((c : Int) % 128 * 2 ^ (7 * k)) = ((c % 128 * 2 ^ (7 * k) : Nat) : Int) := by
    have e1 : (c : Int) % 128 * 2 ^ (7 * k) = ((c % 128 * 2 ^ (7 * k) : Nat) : Int) := by simp
    rw [e1]
    simp only [IntKind.wrap, IntKind.bits, IntKind.signed]
    generalize c % 128 * 2 ^ (7 * k) = V at hV
    simp
    omega
  rw [e, u64_or_nat acc _ (by omega) hV, Nat.or_comm, nat_join (7 * k) _ acc (Nat.mul_mod_left _ _) hacc, Nat.add_comm]
def gotV (g : Nat × Nat × Int) : Value := .tuple #[.int .u64 g.1, .int .i64 g.2.1, .int .i64 g.2.2]
end Go.Proofs.Ytdmhaaplgkilpaa
