/- What comes into the laws of mem, with how long it may be. -/
import Derived.Test.YtmnofmcfkchebaaMmSpec
import Derived.Lib.SmallJoins
import Derived.Deep.SlicePairs
import Derived.Deep.Strs
import Derived.ChangeOld
namespace Go.Proofs.Ytmnofmcfkchebaa
open Go.RowKit Go.Maps Go.WideMaps Go.ChangeShapes Go.WideShapes Go.ChangeAt Go.Deep
set_option linter.unusedSimpArgs false

def OnesSz (w : World) (A : Option Addr) (n : Nat) (X : List MDoc) : Prop := OnesSee w A n X
theorem msl_drop1 (cs : List Value) (j : Nat) (h : j < cs.length) : (cs.drop j).take 1 = [cs[j]] := by
  rw [List.drop_eq_getElem_cons h]; rfl
theorem mrow_of {α : Type} {n : Nat} {P : Nat → α → Prop} (h : ∀ i, i < n → ∃ y, P i y) : ∃ L : List α, L.length = n ∧ ∀ (i : Nat) (y : α), L[i]? = some y → P i y := by
  have hw : ∀ k, k ≤ n → ∃ L : List α, L.length = k ∧ ∀ (i : Nat) (y : α), L[i]? = some y → P i y := by
    intro k
    induction k with
    | zero => intro _; exact ⟨[], rfl, by simp⟩
    | succ k ih =>
      intro hk
      obtain ⟨L, h1, h2⟩ := ih (by omega)
      obtain ⟨y, h3⟩ := h k (by omega)
      refine ⟨L ++ [y], by simp [h1], fun i z hz => ?_⟩
      rcases Nat.lt_or_ge i k with hik | hik
      · rw [List.getElem?_append_left (by omega)] at hz
        exact h2 i z hz
      · have hlt := (List.getElem?_eq_some_iff.1 hz).1
        simp [h1] at hlt
        obtain rfl : i = k := by omega
        rw [List.getElem?_append_right (by omega), h1, Nat.sub_self] at hz
        simp at hz
        subst hz
        exact h3
  exact hw n (Nat.le_refl _)
section
variable {H : Type} {enc : TypeId × Value → H} {w : World}
/-- A slice of ints within another value. -/
theorem mints_within {v : Value} {x : DataW H × List MemPlace} {fuel : Nat} {base : Nat} {spare : Nat → Bool} {held : Bool} (h : DataW.trod enc Try.prog w base spare held fuel 33 [v] = some x) (hs : Sized 33 x.1) :
    ∃ (B : Option Addr) (n c : Nat) (l : List Int), v = .slice B n c ∧ n ≤ c ∧ IntsIn w B n l ∧ n * 8 ≤ 140737488351232 := by
  have hv : ∃ B n c, v = .slice B n c := by
    rcases open_ints Try.underlying33 Try.underlying3 (by kernel_rfl) h with ⟨hcs, _⟩ | ⟨a, l, cp, zs, hcs, _⟩
    · simp only [List.cons.injEq, and_true] at hcs
      exact ⟨_, _, _, hcs⟩
    · simp only [List.cons.injEq, and_true] at hcs
      exact ⟨_, _, _, hcs⟩
  obtain ⟨B, n, c, rfl⟩ := hv
  obtain ⟨l, hl⟩ := ints_in Try.underlying33 Try.underlying3 (by kernel_rfl) h
  have h1 := hs.ints Try.underlying33 Try.underlying3 (by kernel_rfl) h
  rw [show Try.prog.bytesOf 3 = 8 by kernel_rfl] at h1
  exact ⟨B, n, c, l, rfl, cap_in Try.underlying33 h, hl, h1⟩
set_option maxRecDepth 100000 in
theorem onesSz {A : Option Addr} {n c : Nat} {x : DataW H × List MemPlace} {fuel : Nat} {base : Nat} {spare : Nat → Bool} {held : Bool} (h : DataW.trod enc Try.prog w base spare held fuel 22 [.slice A n c] = some x) (hs : Sized 22 x.1) : ∃ X, OnesSz w A n X := by
  rcases open_slice Try.underlying22 h with ⟨hcs, _⟩ | ⟨a, len, cap, m, f, D, Pl, hcs, _, hl, hm, hmm, hx, hi⟩
  · simp only [List.cons.injEq, Value.slice.injEq, and_true] at hcs
    obtain ⟨rfl, rfl, rfl⟩ := hcs
    exact ⟨[], ⟨rfl, by unfold maxLen; omega, fun _ => rfl, fun ad e => by cases e⟩⟩
  · simp only [List.cons.injEq, Value.slice.injEq, and_true] at hcs
    obtain ⟨rfl, rfl, rfl⟩ := hcs
    have hlm : n ≤ m := by rw [hmm]; split <;> omega
    rw [hx] at hs
    have cO : Try.prog.cellsOf 35 = 3 := by kernel_rfl
    have cI : Try.prog.cellsOf 2 = 1 := by kernel_rfl
    have cL : Try.prog.cellsOf 33 = 1 := by kernel_rfl
    obtain ⟨L, h1, h2⟩ := mrow_of (n := n) (P := fun i (y : MDoc) => fits64 y.doc ∧ w.cell? (a.add (i * 3)) = some (.int .i64 y.doc) ∧ (∃ B c, w.cell? (a.add (i * 3 + 1)) = some (.slice B y.T.length c) ∧ y.T.length ≤ c ∧ IntsIn w B y.T.length y.T) ∧ ∃ B c, w.cell? (a.add (i * 3 + 2)) = some (.slice B y.S.length c) ∧ y.S.length ≤ c ∧ IntsIn w B y.S.length y.S) (fun i hlt => by
      obtain ⟨cs', hc, ht⟩ := hi i (by omega)
      have hsi := hs.elem Try.underlying22 (List.mem_map.2 ⟨i, List.mem_range.2 hlt, rfl⟩)
      rw [cO] at hc
      obtain ⟨_, _, hat⟩ := World.cells?_some hc
      obtain ⟨y0, y1, y2, k, hx3, hl3, f0, f1, f2⟩ := trod_struct3 Try.underlying35 ht
      have hl3 : cs'.length = 3 := by rw [hl3, cO]
      rw [show D i = .agg [y0.1, y1.1, y2.1] from (congrArg Prod.fst hx3)] at hsi
      have s1 : Sized 33 y1.1 := hsi.field Try.underlying35 (j := 1) rfl rfl
      have s2 : Sized 33 y2.1 := hsi.field Try.underlying35 (j := 2) rfl rfl
      have f0 : DataW.trod enc Try.prog w _ _ _ k 2 ((cs'.drop 0).take (Try.prog.cellsOf 2)) = some y0 := f0
      have f1 : DataW.trod enc Try.prog w _ _ _ k 33 ((cs'.drop 1).take (Try.prog.cellsOf 33)) = some y1 := f1
      have f2 : DataW.trod enc Try.prog w _ _ _ k 33 ((cs'.drop 2).take (Try.prog.cellsOf 33)) = some y2 := f2
      rw [cI, msl_drop1 _ _ (by omega)] at f0
      rw [cL, msl_drop1 _ _ (by omega)] at f1
      rw [cL, msl_drop1 _ _ (by omega)] at f2
      obtain ⟨z0, e0, _, w0⟩ := DataW.trod_int Try.underlying2 f0
      obtain ⟨B, bn, bc, l, e1, hbc, hi1, -⟩ := mints_within f1 s1
      obtain ⟨C, cn, cc, l2, e2, hcc, hi2, -⟩ := mints_within f2 s2
      have hll := hi1.len
      have hll2 := hi2.len
      subst hll hll2
      simp only [List.cons.injEq, and_true] at e0
      simp [Lit.wf, IntKind.min, IntKind.max, IntKind.signed, IntKind.bits] at w0
      refine ⟨⟨z0, l, l2⟩, by unfold fits64; simp only; omega, ?_, ⟨B, bc, ?_, hbc, hi1⟩, C, cc, ?_, hcc, hi2⟩
      · have h3 := hat 0 (by omega)
        rw [Go.Deep.add_add, Nat.add_zero] at h3
        rw [h3, List.getElem?_eq_getElem (by omega), e0]
      · have h3 := hat 1 (by omega)
        rw [Go.Deep.add_add] at h3
        rw [h3, List.getElem?_eq_getElem (by omega), e1]
      · have h3 := hat 2 (by omega)
        rw [Go.Deep.add_add] at h3
        rw [h3, List.getElem?_eq_getElem (by omega), e2])
    refine ⟨L, ⟨h1, by omega, (fun e => by cases e), fun ad e i y hy => ?_⟩⟩
    cases e
    exact h2 i y hy
theorem marray3 {cs : Array Value} (h : cs.size = 3) : ∃ a b c, cs = #[a, b, c] := by
  obtain ⟨l⟩ := cs
  match l, h with
  | [a, b, c], _ => exact ⟨a, b, c, rfl⟩
set_option maxRecDepth 100000 in
theorem one_val {r : Reach} {b0 : Nat} {v : Value} {d : DataW H} {p : List MemPlace} {base : Nat} {spare : Nat → Bool} {held : Bool} (hv : Value.okWide Try.prog w r b0 35 v) (h : DataW.Trod enc Try.prog w base spare held 35 v d p) (hs : Sized 35 d) :
    ∃ (x : MDoc) (B C : Option Addr) (n1 n2 c1 c2 : Nat), v = .agg #[.int .i64 x.doc, .slice B n1 c1, .slice C n2 c2] ∧ IntsIn w B n1 x.T ∧ IntsIn w C n2 x.S ∧ n1 ≤ c1 ∧ n2 ≤ c2 ∧ n1 * 8 ≤ 140737488351232 ∧ n2 * 8 ≤ 140737488351232 ∧ fits64 x.doc := by
  have hC : Try.prog.cellsOf 35 = 3 := by kernel_rfl
  obtain ⟨cs, rfl, hsz⟩ := okWide_struct Try.underlying35 hv
  obtain ⟨c0, c1, c2, rfl⟩ := marray3 (hsz.trans hC)
  obtain ⟨fuel, hf⟩ := h
  obtain ⟨y0, y1, y2, k, hx3, hl3, f0, f1, f2⟩ := trod_struct3 Try.underlying35 hf
  have k1 : Try.prog.cellsOf 2 = 1 := by kernel_rfl
  have k2 : Try.prog.cellsOf 33 = 1 := by kernel_rfl
  rw [show d = .agg [y0.1, y1.1, y2.1] from (congrArg Prod.fst hx3)] at hs
  have s1 : Sized 33 y1.1 := hs.field Try.underlying35 (j := 1) rfl rfl
  have s2 : Sized 33 y2.1 := hs.field Try.underlying35 (j := 2) rfl rfl
  simp only [Value.cells, k1, k2, List.drop_zero, List.drop_succ_cons, List.take_succ_cons, List.take_zero] at f0 f1 f2
  obtain ⟨z0, e0, _, w0⟩ := DataW.trod_int Try.underlying2 f0
  obtain ⟨B, bn, bc, l, e1, hbc, hi1, hn1⟩ := mints_within f1 s1
  obtain ⟨C, cn, cc, l2, e2, hcc, hi2, hn2⟩ := mints_within f2 s2
  simp only [List.cons.injEq, and_true] at e0
  subst e0 e1 e2
  simp [Lit.wf, IntKind.min, IntKind.max, IntKind.signed, IntKind.bits] at w0
  exact ⟨⟨z0, l, l2⟩, B, C, bn, cn, bc, cc, rfl, hi1, hi2, hbc, hcc, hn1, hn2, by unfold fits64; simp only; omega⟩
end
end Go.Proofs.Ytmnofmcfkchebaa
