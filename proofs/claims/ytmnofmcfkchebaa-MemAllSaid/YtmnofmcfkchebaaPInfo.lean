/- What Get leaves; the sizes of postings. -/
import Derived.Test.YtmnofmcfkchebaaPMath
import Derived.Test.YtmnofmcfkchebaaKPostsG
namespace Go.Proofs.Ytmnofmcfkchebaa
open Go.RowKit Go.Maps Go.WideMaps
set_option linter.unusedSimpArgs false

def GetPOut (w : World) (g : List Pst × Int) (e : Ending) (w' : World) : Prop := ∃ v, e = .returned (.tuple #[v, .int .i64 g.2]) ∧ PostsO w' w.heap.size v g.1 ∧ Below w.heap.size w w'
theorem spotInfo : (Try.prog.info? 48).map (fun i => (i.zero, i.size, i.bytes)) = some (some (.agg #[.int .i64 0, .int .i64 0]), 2, 16) := by kernel_rfl
theorem postInfo : (Try.prog.info? 46).map (fun i => (i.zero, i.size, i.bytes)) = some (some (.agg #[.int .i64 0, .slice none 0 0]), 2, 32) := by kernel_rfl
theorem gotErr {w w' : World} {g : List Pst × Int} (h : g = ([], 3)) (hb : Below w.heap.size w w') : GetPOut w g (.returned (.tuple #[.slice none 0 0, .int .i64 3])) w' := by
  subst h
  exact ⟨_, rfl, PostsO.nil _ _, hb⟩
/-- Postings that came in, with how long they may be. -/
def PostsSz (w : World) (A : Option Addr) (n : Nat) (l : List Pst) : Prop := PostsSee w A n l ∧ (∀ x ∈ l, x.2.length ≤ 140737488351232) ∧ n ≤ 140737488351232
theorem PostsSee.nil0 (w : World) : PostsSee w none 0 [] := ⟨rfl, by unfold maxLen; omega, fun _ => rfl, fun ad e => by cases e⟩
end Go.Proofs.Ytmnofmcfkchebaa
