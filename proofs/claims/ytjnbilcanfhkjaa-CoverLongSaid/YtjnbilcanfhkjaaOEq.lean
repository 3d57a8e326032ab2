/- Two aligns, whether equal. -/
import Derived.Test.YtjnbilcanfhkjaaOHead
import Derived.Laws.StructEq
namespace Go.Proofs.Ytjnbilcanfhkjaa
open Go.RowKit Go.Maps Go.WideMaps

set_option maxRecDepth 100000 in
theorem align_fields : ∃ f g : Field, Try.prog.fieldsOf 26 = #[f, g] ∧ f.name ≠ "_" ∧ g.name ≠ "_" ∧ f.type = 3 ∧ g.type = 3 ∧ f.offset = 0 ∧ g.offset = 1 :=
  ⟨_, _, rfl, by decide, by decide, rfl, rfl, rfl, rfl⟩
set_option maxRecDepth 100000 in
theorem eqAlign (y1 y2 x1 x2 : Int) {r : Bool} (h : ((y1 == x1) && (y2 == x2)) = r) (w : World) : (binOp .eql 26 (.agg #[.int .i64 y1, .int .i64 y2]) (.agg #[.int .i64 x1, .int .i64 x2])).run Try.prog w = .ok (.bool r) w := by
  subst h
  obtain ⟨f, g, h1, h2, h3, h4, h5, h6, h7⟩ := align_fields
  rw [run_eql_struct, run_equalIn_struct w 9999 26 _ _ rfl (by kernel_rfl), h1]
  have he : ∀ a b : Int, ∀ w : World, (Op.equalIn 9999 3 (.int .i64 a) (.int .i64 b)).run Try.prog w = .ok (a == b) w := fun a b w => run_equalIn_int w 9998 3 .i64 .i64 a b Try.underlying3
  simp only [Op.eqFields, h4, h5, h6, h7, if_pos h2, if_pos h3]
  simp [part, he]
  cases hA : (y1 == x1) <;> cases hB : (y2 == x2) <;> simp_all
end Go.Proofs.Ytjnbilcanfhkjaa
