/- Slices of slices of integers that came in. -/
import Derived.Test.YtkligdaademakaaKInts
namespace Go.Proofs.Ytkligdaademakaa
open Go.RowKit Go.Maps Go.WideMaps Go.ChangeShapes Go.WideShapes Go.ChangeAt Go.Deep

/-- What can be read: each row, in order. -/
structure RowsSeeI (w : World) (A : Option Addr) (n : Nat) (L : List (List Int)) : Prop where
  len : L.length = n
  fit : n ≤ maxLen
  at_ : ∀ (i : Nat) (x : List Int), L[i]? = some x → ∃ ad B c, A = some ad ∧ w.cell? (ad.add i) = some (.slice B x.length c) ∧ x.length ≤ c ∧ IntsIn w B x.length x
theorem RowsSeeI.below {w w' : World} {A : Option Addr} {n : Nat} {L : List (List Int)} (h : RowsSeeI w A n L) (hb : Below w.heap.size w w') : RowsSeeI w' A n L :=
  ⟨h.len, h.fit, fun i x hx => by
    obtain ⟨ad, B, c, h1, h2, h3, h4⟩ := h.at_ i x hx
    exact ⟨ad, B, c, h1, (hb.cell (World.block_lt_of_cell? w _ h2)).trans h2, h3, h4.below hb⟩⟩
section
variable {H : Type} {enc : TypeId × Value → H} {w : World}
theorem ints_shape {A : Value} {x : DataW H × List MemPlace} {fuel : Nat} {base : Nat} {spare : Nat → Bool} {held : Bool} (h : DataW.trod enc Try.prog w base spare held fuel 26 [A] = some x) : ∃ C k cc, A = .slice C k cc ∧ k ≤ cc := by
  rcases open_slice Try.underlying26 h with ⟨hcs, _⟩ | ⟨a, len, cap, m, f, D, Pl, hcs, _, hl, hm, hmm, hx, hi⟩
  · simp only [List.cons.injEq, and_true] at hcs
    exact ⟨none, 0, 0, hcs, Nat.le_refl _⟩
  · simp only [List.cons.injEq, and_true] at hcs
    exact ⟨some a, len, cap, hcs, hl⟩
set_option maxRecDepth 100000 in
/-- A slice of slices of integers that came in. -/
theorem rowsI_in {A : Option Addr} {n c : Nat} {x : DataW H × List MemPlace} {fuel : Nat} {base : Nat} {spare : Nat → Bool} {held : Bool} (h : DataW.trod enc Try.prog w base spare held fuel 59 [.slice A n c] = some x) : ∃ L, RowsSeeI w A n L := by
  rcases open_slice Try.underlying59 h with ⟨hcs, _⟩ | ⟨a, len, cap, m, f, D, Pl, hcs, _, hl, hm, hmm, hx, hi⟩
  · simp only [List.cons.injEq, Value.slice.injEq, and_true] at hcs
    obtain ⟨rfl, rfl, rfl⟩ := hcs
    exact ⟨[], rfl, by unfold maxLen; omega, by simp⟩
  · simp only [List.cons.injEq, Value.slice.injEq, and_true] at hcs
    obtain ⟨rfl, rfl, rfl⟩ := hcs
    have hlm : n ≤ m := by rw [hmm]; split <;> omega
    have cO : Try.prog.cellsOf 26 = 1 := by kernel_rfl
    have cI : Try.prog.cellsOf 2 = 1 := by kernel_rfl
    have hex : ∀ i, i < n → ∃ (y : List Int) (B : Option Addr) (cb : Nat), w.cell? (a.add i) = some (.slice B y.length cb) ∧ y.length ≤ cb ∧ IntsIn w B y.length y := by
      intro i hlt
      obtain ⟨cs', hc, ht⟩ := hi i (by omega)
      rw [cO] at hc
      obtain ⟨hsz, _, hat⟩ := World.cells?_some hc
      obtain ⟨u, rfl⟩ : ∃ u, cs' = [u] := by
        match cs', hsz with
        | [u], _ => exact ⟨u, rfl⟩
      obtain ⟨B, bn, bc, rfl, hbc⟩ := ints_shape ht
      obtain ⟨y, hy⟩ := ints_in Try.underlying26 Try.underlying2 cI ht
      have hyl : y.length = bn := hy.len
      subst hyl
      refine ⟨y, B, bc, ?_, hbc, hy⟩
      have := hat 0 (by simp)
      simpa [Addr.add] using this
    have hw : ∀ k, k ≤ n → ∃ L : List (List Int), L.length = k ∧ ∀ (i : Nat) (y : List Int), L[i]? = some y → ∃ B cb, w.cell? (a.add i) = some (.slice B y.length cb) ∧ y.length ≤ cb ∧ IntsIn w B y.length y := by
      intro k
      induction k with
      | zero => intro _; exact ⟨[], rfl, by simp⟩
      | succ k ih =>
        intro hk
        obtain ⟨L, h1, h2⟩ := ih (by omega)
        obtain ⟨y, B, cb, h3, h4, h5⟩ := hex k (by omega)
        refine ⟨L ++ [y], by simp [h1], fun i z hz => ?_⟩
        rcases Nat.lt_or_ge i k with hik | hik
        · rw [List.getElem?_append_left (by omega)] at hz
          exact h2 i z hz
        · have hlt := (List.getElem?_eq_some_iff.1 hz).1
          simp [h1] at hlt
          obtain rfl : i = k := by omega
          rw [List.getElem?_append_right (by omega), h1, Nat.sub_self] at hz
          simp at hz
          subst hz
          exact ⟨B, cb, h3, h4, h5⟩
    obtain ⟨L, h1, h2⟩ := hw n (Nat.le_refl _)
    exact ⟨L, h1, by omega, fun i y hy => by
      obtain ⟨B, cb, h3, h4, h5⟩ := h2 i y hy
      exact ⟨a, B, cb, rfl, h3, h4, h5⟩⟩
end
end Go.Proofs.Ytkligdaademakaa
