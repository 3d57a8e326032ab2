/- bytes.Equal of whatever bytes. -/
import Derived.Test.YtdmhaaplgkilpaaKStr
namespace Go.Proofs.Ytdmhaaplgkilpaa
open Go.RowKit Go.Maps Go.WideMaps

set_option maxRecDepth 100000 in
theorem equal_any (w : World) (A B : Option Addr) (n m ca cb : Nat) (la lb : Nm) (ha : BytesIn w A n la) (hb : BytesIn w B m lb) :
    Calls Try.prog 38 #[.slice A n ca, .slice B m cb] w fun e w' => e = .returned (.bool (decide (la = lb))) ∧ w' = w := by
  have c1 := str_of ha ca
  have c2 := str_of hb cb
  clear ha hb
  by_cases h : la = lb
  · subst h
    rw [decide_eq_true rfl]
    go_enter Try.func38, Try.ntmps38
    go_wp2
    go_ret
    simp
  · have d1 : (la == lb) = false := by simpa using h
    rw [decide_eq_false h]
    go_enter Try.func38, Try.ntmps38
    go_wp2
    go_ret
    simp
end Go.Proofs.Ytdmhaaplgkilpaa
