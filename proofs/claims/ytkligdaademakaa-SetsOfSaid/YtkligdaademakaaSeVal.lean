/- What comes into the laws of sets, with how long it may be. -/
import Derived.Test.YtkligdaademakaaSeOps
import Derived.Test.YtkligdaademakaaZp6
import Derived.Lib.SmallJoins
import Derived.Deep.SlicePairs
import Derived.Deep.Strs
namespace Go.Proofs.Ytkligdaademakaa
open Go.RowKit Go.Maps Go.WideMaps Go.ChangeShapes Go.WideShapes Go.ChangeAt Go.Deep

def IntsSz (w : World) (A : Option Addr) (n : Nat) (l : List Int) : Prop := IntsIn w A n l ∧ n ≤ 140737488351232
def RowsISz (w : World) (A : Option Addr) (n : Nat) (L : List (List Int)) : Prop := RowsSeeI w A n L ∧ (∀ x ∈ L, x.length ≤ 140737488351232) ∧ n ≤ 140737488351232
def SOpsSz (w : World) (A : Option Addr) (n : Nat) (T : List SOp) : Prop := SOpsSee w A n T ∧ (∀ x ∈ T, x.l.length ≤ 140737488351232) ∧ n ≤ 140737488351232
def CallsSz (w : World) (A : Option Addr) (n : Nat) (l : List (Int × Int)) : Prop := PairsIn w A n l ∧ n ≤ 140737488351232
theorem sl_drop1 (cs : List Value) (j : Nat) (h : j < cs.length) : (cs.drop j).take 1 = [cs[j]] := by
  rw [List.drop_eq_getElem_cons h]; rfl
section
variable {H : Type} {enc : TypeId × Value → H} {w : World}
theorem intsSz {A : Option Addr} {n c : Nat} {x : DataW H × List MemPlace} {fuel : Nat} {base : Nat} {spare : Nat → Bool} {held : Bool} (h : DataW.trod enc Try.prog w base spare held fuel 26 [.slice A n c] = some x) (hs : Sized 26 x.1) : ∃ l, IntsSz w A n l := by
  obtain ⟨l, hl⟩ := ints_in Try.underlying26 Try.underlying2 (by kernel_rfl) h
  have h1 := hs.ints Try.underlying26 Try.underlying2 (by kernel_rfl) h
  rw [show Try.prog.bytesOf 2 = 8 by kernel_rfl] at h1
  exact ⟨l, hl, by omega⟩
/-- A slice of integers within another value. -/
theorem ints_within {v : Value} {x : DataW H × List MemPlace} {fuel : Nat} {base : Nat} {spare : Nat → Bool} {held : Bool} (h : DataW.trod enc Try.prog w base spare held fuel 26 [v] = some x) (hs : Sized 26 x.1) :
    ∃ (B : Option Addr) (n c : Nat) (l : List Int), v = .slice B n c ∧ n ≤ c ∧ IntsIn w B n l ∧ n ≤ 140737488351232 := by
  obtain ⟨B, n, c, rfl, hc⟩ := ints_shape h
  obtain ⟨l, hl, hn⟩ := intsSz h hs
  exact ⟨B, n, c, l, rfl, hc, hl, hn⟩
/-- A row of what can be told of each. -/
theorem row_of {α : Type} {n : Nat} {P : Nat → α → Prop} (h : ∀ i, i < n → ∃ y, P i y) : ∃ L : List α, L.length = n ∧ ∀ (i : Nat) (y : α), L[i]? = some y → P i y := by
  have hw : ∀ k, k ≤ n → ∃ L : List α, L.length = k ∧ ∀ (i : Nat) (y : α), L[i]? = some y → P i y := by
    intro k
    induction k with
    | zero => intro _; exact ⟨[], rfl, by simp⟩
    | succ k ih =>
      intro hk
      obtain ⟨L, h1, h2⟩ := ih (by omega)
      obtain ⟨y, h3⟩ := h k (by omega)
      refine ⟨L ++ [y], by simp [h1], fun i z hz => ?_⟩
      rcases Nat.lt_or_ge i k with hik | hik
      · rw [List.getElem?_append_left (by omega)] at hz
        exact h2 i z hz
      · have hlt := (List.getElem?_eq_some_iff.1 hz).1
        simp [h1] at hlt
        obtain rfl : i = k := by omega
        rw [List.getElem?_append_right (by omega), h1, Nat.sub_self] at hz
        simp at hz
        subst hz
        exact h3
  exact hw n (Nat.le_refl _)
set_option maxRecDepth 100000 in
theorem rowsISz {A : Option Addr} {n c : Nat} {x : DataW H × List MemPlace} {fuel : Nat} {base : Nat} {spare : Nat → Bool} {held : Bool} (h : DataW.trod enc Try.prog w base spare held fuel 59 [.slice A n c] = some x) (hs : Sized 59 x.1) : ∃ L, RowsISz w A n L := by
  rcases open_slice Try.underlying59 h with ⟨hcs, _⟩ | ⟨a, len, cap, m, f, D, Pl, hcs, _, hl, hm, hmm, hx, hi⟩
  · simp only [List.cons.injEq, Value.slice.injEq, and_true] at hcs
    obtain ⟨rfl, rfl, rfl⟩ := hcs
    exact ⟨[], ⟨rfl, by unfold maxLen; omega, by simp⟩, by simp, by omega⟩
  · simp only [List.cons.injEq, Value.slice.injEq, and_true] at hcs
    obtain ⟨rfl, rfl, rfl⟩ := hcs
    have hlm : n ≤ m := by rw [hmm]; split <;> omega
    rw [hx] at hs
    have hlen := hs.len Try.underlying59
    rw [show Try.prog.bytesOf 26 = 24 by kernel_rfl] at hlen
    simp only [List.length_map, List.length_range] at hlen
    have cO : Try.prog.cellsOf 26 = 1 := by kernel_rfl
    obtain ⟨L, h1, h2⟩ := row_of (n := n) (P := fun i (y : List Int) => y.length ≤ 140737488351232 ∧ ∃ B cb, w.cell? (a.add i) = some (.slice B y.length cb) ∧ y.length ≤ cb ∧ IntsIn w B y.length y) (fun i hlt => by
      obtain ⟨cs', hc, ht⟩ := hi i (by omega)
      rw [cO] at hc
      obtain ⟨hsz, _, hat⟩ := World.cells?_some hc
      obtain ⟨u, rfl⟩ : ∃ u, cs' = [u] := by
        match cs', hsz with
        | [u], _ => exact ⟨u, rfl⟩
      obtain ⟨B, bn, bc, y, rfl, hbc, hy, hyn⟩ := ints_within ht (hs.elem Try.underlying59 (List.mem_map.2 ⟨i, List.mem_range.2 hlt, rfl⟩))
      have hyl : y.length = bn := hy.len
      subst hyl
      refine ⟨y, hyn, B, bc, ?_, hbc, hy⟩
      have := hat 0 (by simp)
      simpa [Addr.add] using this)
    refine ⟨L, ⟨h1, by omega, fun i y hy => ?_⟩, fun y hy => ?_, by omega⟩
    · obtain ⟨_, B, cb, h3, h4, h5⟩ := h2 i y hy
      exact ⟨a, B, cb, rfl, h3, h4, h5⟩
    · obtain ⟨i, hi'⟩ := List.getElem?_of_mem hy
      exact (h2 i y hi').1
set_option maxRecDepth 100000 in
theorem sopsSz {A : Option Addr} {n c : Nat} {x : DataW H × List MemPlace} {fuel : Nat} {base : Nat} {spare : Nat → Bool} {held : Bool} (h : DataW.trod enc Try.prog w base spare held fuel 22 [.slice A n c] = some x) (hs : Sized 22 x.1) : ∃ T, SOpsSz w A n T := by
  rcases open_slice Try.underlying22 h with ⟨hcs, _⟩ | ⟨a, len, cap, m, f, D, Pl, hcs, _, hl, hm, hmm, hx, hi⟩
  · simp only [List.cons.injEq, Value.slice.injEq, and_true] at hcs
    obtain ⟨rfl, rfl, rfl⟩ := hcs
    exact ⟨[], ⟨rfl, by unfold maxLen; omega, fun _ => rfl, fun ad e => by cases e⟩, by simp, by omega⟩
  · simp only [List.cons.injEq, Value.slice.injEq, and_true] at hcs
    obtain ⟨rfl, rfl, rfl⟩ := hcs
    have hlm : n ≤ m := by rw [hmm]; split <;> omega
    rw [hx] at hs
    have hlen := hs.len Try.underlying22
    rw [show Try.prog.bytesOf 65 = 40 by kernel_rfl] at hlen
    simp only [List.length_map, List.length_range] at hlen
    have cO : Try.prog.cellsOf 65 = 3 := by kernel_rfl
    have cI : Try.prog.cellsOf 3 = 1 := by kernel_rfl
    have cL : Try.prog.cellsOf 26 = 1 := by kernel_rfl
    have cJ : Try.prog.cellsOf 2 = 1 := by kernel_rfl
    obtain ⟨L, h1, h2⟩ := row_of (n := n) (P := fun i (y : SOp) => y.l.length ≤ 140737488351232 ∧ fits64 y.what ∧ fits64 y.n ∧ w.cell? (a.add (i * 3)) = some (.int .i64 y.what) ∧ w.cell? (a.add (i * 3 + 2)) = some (.int .i64 y.n) ∧ ∃ B cb, w.cell? (a.add (i * 3 + 1)) = some (.slice B y.l.length cb) ∧ y.l.length ≤ cb ∧ IntsIn w B y.l.length y.l) (fun i hlt => by
      obtain ⟨cs', hc, ht⟩ := hi i (by omega)
      have hsi := hs.elem Try.underlying22 (List.mem_map.2 ⟨i, List.mem_range.2 hlt, rfl⟩)
      rw [cO] at hc
      obtain ⟨_, _, hat⟩ := World.cells?_some hc
      obtain ⟨y0, y1, y2, k, hx3, hl3, f0, f1, f2⟩ := trod_struct3 Try.underlying65 ht
      have hl3 : cs'.length = 3 := by rw [hl3, cO]
      rw [show D i = .agg [y0.1, y1.1, y2.1] from (congrArg Prod.fst hx3)] at hsi
      have s1 : Sized 26 y1.1 := hsi.field Try.underlying65 (j := 1) rfl rfl
      have f0 : DataW.trod enc Try.prog w _ _ _ k 3 ((cs'.drop 0).take (Try.prog.cellsOf 3)) = some y0 := f0
      have f1 : DataW.trod enc Try.prog w _ _ _ k 26 ((cs'.drop 1).take (Try.prog.cellsOf 26)) = some y1 := f1
      have f2 : DataW.trod enc Try.prog w _ _ _ k 2 ((cs'.drop 2).take (Try.prog.cellsOf 2)) = some y2 := f2
      rw [cI, sl_drop1 _ _ (by omega)] at f0
      rw [cL, sl_drop1 _ _ (by omega)] at f1
      rw [cJ, sl_drop1 _ _ (by omega)] at f2
      obtain ⟨z0, e0, _, w0⟩ := DataW.trod_int Try.underlying3 f0
      obtain ⟨z2, e2, _, w2⟩ := DataW.trod_int Try.underlying2 f2
      obtain ⟨B, bn, bc, l, e1, hbc, hi1, hn1⟩ := ints_within f1 s1
      have hll := hi1.len
      subst hll
      simp only [List.cons.injEq, and_true] at e0 e2
      simp [Lit.wf, IntKind.min, IntKind.max, IntKind.signed, IntKind.bits] at w0 w2
      refine ⟨⟨z0, l, z2⟩, hn1, by unfold fits64; simp only; omega, by unfold fits64; simp only; omega, ?_, ?_, B, bc, ?_, hbc, hi1⟩
      · have h3 := hat 0 (by omega)
        rw [Go.Deep.add_add, Nat.add_zero] at h3
        rw [h3, List.getElem?_eq_getElem (by omega), e0]
      · have h3 := hat 2 (by omega)
        rw [Go.Deep.add_add] at h3
        rw [h3, List.getElem?_eq_getElem (by omega), e2]
      · have h3 := hat 1 (by omega)
        rw [Go.Deep.add_add] at h3
        rw [h3, List.getElem?_eq_getElem (by omega), e1])
    refine ⟨L, ⟨h1, by omega, (fun e => by cases e), fun ad e i y hy => ?_⟩, fun y hy => ?_, by omega⟩
    · cases e
      exact (h2 i y hy).2
    · obtain ⟨i, hi'⟩ := List.getElem?_of_mem hy
      exact (h2 i y hi').1
set_option maxRecDepth 100000 in
theorem callsSz {A : Option Addr} {n c : Nat} {x : DataW H × List MemPlace} {fuel : Nat} {base : Nat} {spare : Nat → Bool} {held : Bool} (h : DataW.trod enc Try.prog w base spare held fuel 31 [.slice A n c] = some x) (hs : Sized 31 x.1) : ∃ l, CallsSz w A n l := by
  have hp : ∀ {cs : List Value} {x : DataW H × List MemPlace} {fuel : Nat} {base : Nat} {spare : Nat → Bool} {held : Bool}, DataW.trod enc Try.prog w base spare held fuel 38 cs = some x → ∃ p : Int × Int, cs = [.int .i64 p.1, .int .i64 p.2] ∧ fits64 p.1 ∧ fits64 p.2 := fun h => pair_in Try.underlying38 rfl rfl rfl (by kernel_rfl) Try.underlying3 Try.underlying2 (by kernel_rfl) (by kernel_rfl) rfl rfl h
  obtain ⟨l, hl⟩ := pairs_in Try.underlying31 (by kernel_rfl) hp h
  refine ⟨l, hl, ?_⟩
  rcases open_slice Try.underlying31 h with ⟨hcs, _⟩ | ⟨a, len, cap, m, f, D, Pl, hcs, _, hl2, hm, hmm, hx, hi⟩
  · simp only [List.cons.injEq, Value.slice.injEq, and_true] at hcs
    omega
  · simp only [List.cons.injEq, Value.slice.injEq, and_true] at hcs
    rw [hx] at hs
    have hlen := hs.len Try.underlying31
    rw [show Try.prog.bytesOf 38 = 16 by kernel_rfl] at hlen
    simp only [List.length_map, List.length_range] at hlen
    omega
end
end Go.Proofs.Ytkligdaademakaa
