/- A change that came in by value. -/
import Derived.Test.YtecpihghlelefaaVChg1
import Derived.Lib.SmallJoins
namespace Go.Proofs.Ytecpihghlelefaa
open Go.RowKit Go.Maps Go.WideMaps Go.ChangeShapes Go.WideShapes

theorem pairsIn' {H : Type} {enc : TypeId × Value → H} {w : World} {A : Option Addr} {n c : Nat} {x : DataW H × List MemPlace} {fuel : Nat} {base : Nat} {spare : Nat → Bool} {held : Bool} (h : DataW.trod enc Try.prog w base spare held fuel 22 [.slice A n c] = some x) (_ : Sized 22 x.1) : ∃ l, PairsIn w A n l :=
  pairs_in Try.underlying22 (by kernel_rfl) (pair_in Try.underlying45 rfl rfl rfl (by kernel_rfl) Try.underlying3 Try.underlying3 (by kernel_rfl) (by kernel_rfl) rfl rfl) h
theorem fits_int {n : Int} (hw : (Lit.int .i64 n).wf = true) : fits64 n := by
  simp [Lit.wf, IntKind.min, IntKind.max, IntKind.signed, IntKind.bits] at hw
  exact ⟨by omega, by omega⟩
theorem array6 {α : Type} {a : Array α} (h : a.size = 6) : ∃ x0 x1 x2 x3 x4 x5, a = #[x0, x1, x2, x3, x4, x5] := by
  obtain ⟨l⟩ := a
  match l, h with
  | [x0, x1, x2, x3, x4, x5], _ => exact ⟨x0, x1, x2, x3, x4, x5, rfl⟩
set_option maxRecDepth 100000 in
theorem change_val {H : Type} {enc : TypeId × Value → H} {w : World} {r : Reach} {b0 : Nat} {v : Value} {d : DataW H} {p : List MemPlace} {base : Nat} {spare : Nat → Bool} {held : Bool} (hv : Value.okWide Try.prog w r b0 27 v) (h : DataW.Trod enc Try.prog w base spare held 27 v d p) :
    ∃ (kd a x y z : Int) (T : Option Addr) (tc : Nat) (tk : Nm), v = chV kd a T tk.length tc x y z ∧ BytesIn w T tk.length tk ∧ tk.length ≤ tc ∧ mgFits ⟨x, y, z⟩ := by
  have hC : Try.prog.cellsOf 27 = 6 := by kernel_rfl
  obtain ⟨cs, rfl, hsz⟩ := okWide_struct Try.underlying27 hv
  obtain ⟨c0, c1, c2, c3, c4, c5, rfl⟩ := array6 (hsz.trans hC)
  obtain ⟨fuel, hf⟩ := h
  obtain ⟨y0, y1, y2, y3, n, hx, _, h0, h1, h2, h3⟩ := Go.Joins.trod_struct4 Try.underlying27 hf
  have k1 : Try.prog.cellsOf 3 = 1 := by kernel_rfl
  have k2 : Try.prog.cellsOf 23 = 1 := by kernel_rfl
  have k3 : Try.prog.cellsOf 25 = 3 := by kernel_rfl
  simp only [Value.cells, k1, k2, k3, List.drop_zero, List.drop_succ_cons, List.take_succ_cons, List.take_zero] at h0 h1 h2 h3
  obtain ⟨kd, e0, _, w0⟩ := DataW.trod_int Try.underlying3 h0
  obtain ⟨a, e1, _, w1⟩ := DataW.trod_int Try.underlying3 h1
  simp only [List.cons.injEq, and_true] at e0 e1
  subst e0 e1
  have hs : ∃ C k cc, c2 = .slice C k cc := by
    rcases open_ints Try.underlying23 Try.underlying5 (by kernel_rfl) h2 with ⟨hcs, _⟩ | ⟨a, l, cp, zs, hcs, _⟩
    · simp only [List.cons.injEq, and_true] at hcs
      exact ⟨_, _, _, hcs⟩
    · simp only [List.cons.injEq, and_true] at hcs
      exact ⟨_, _, _, hcs⟩
  obtain ⟨T, tn, tc, rfl⟩ := hs
  obtain ⟨tk, htk⟩ := bytes_in h2
  have hcap := cap_in Try.underlying23 h2
  obtain rfl : tk.length = tn := by have := htk.2.1.len; simpa using this
  obtain ⟨g0, g1, g2, n', hx', _, q0, q1, q2⟩ := Go.Deep.trod_struct3 Try.underlying25 h3
  simp only [k1, List.drop_zero, List.drop_succ_cons, List.take_succ_cons, List.take_zero] at q0 q1 q2
  obtain ⟨x, f0, _, v0⟩ := DataW.trod_int Try.underlying3 q0
  obtain ⟨y, f1, _, v1⟩ := DataW.trod_int Try.underlying3 q1
  obtain ⟨z, f2, _, v2⟩ := DataW.trod_int Try.underlying3 q2
  simp only [List.cons.injEq, and_true] at f0 f1 f2
  subst f0 f1 f2
  exact ⟨kd, a, x, y, z, T, tc, tk, rfl, htk, hcap, fits_int v0, fits_int v1, fits_int v2⟩
end Go.Proofs.Ytecpihghlelefaa
