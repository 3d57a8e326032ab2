/- What an int is in memory. -/
import Derived.Test.YtmnofmcfkchebaaKCore
namespace Go.Proofs.Ytmnofmcfkchebaa
theorem intInfo1 : (Try.prog.info? 3).map (fun i => (i.zero, i.size, i.bytes)) = some (some (.int .i64 0), 1, 8) := by kernel_rfl
theorem intInfoI : (Try.prog.info? 3).map (fun i => (i.zero, i.size, i.bytes)) = some (some (.int .i64 0), 1, 8) := by kernel_rfl
end Go.Proofs.Ytmnofmcfkchebaa
