/- Postings that came in, with their lengths within the reach. -/
import Derived.Test.YtkligdaademakaaPInfo
import Derived.Lib.SmallJoins
import Derived.Deep.SlicePairs
namespace Go.Proofs.Ytkligdaademakaa
open Go.RowKit Go.Maps Go.WideMaps Go.ChangeShapes Go.WideShapes Go.ChangeAt Go.Deep

section
variable {H : Type} {enc : TypeId × Value → H} {w : World}
set_option maxRecDepth 100000 in
theorem spots_in {v : Value} {x : DataW H × List MemPlace} {fuel : Nat} {base : Nat} {spare : Nat → Bool} {held : Bool} (h : DataW.trod enc Try.prog w base spare held fuel 50 [v] = some x) (hs : Sized 50 x.1) :
    ∃ (B : Option Addr) (n c : Nat) (l : List (Int × Int)), v = .slice B n c ∧ n ≤ c ∧ PairsIn w B n l ∧ n ≤ 140737488351232 := by
  have hp : ∀ {cs : List Value} {x : DataW H × List MemPlace} {fuel : Nat} {base : Nat} {spare : Nat → Bool} {held : Bool}, DataW.trod enc Try.prog w base spare held fuel 97 cs = some x → ∃ p : Int × Int, cs = [.int .i64 p.1, .int .i64 p.2] ∧ fits64 p.1 ∧ fits64 p.2 := fun h => pair_in Try.underlying97 rfl rfl rfl (by kernel_rfl) Try.underlying2 Try.underlying2 (by kernel_rfl) (by kernel_rfl) rfl rfl h
  rcases open_slice Try.underlying50 h with ⟨hcs, _⟩ | ⟨a, len, cap, m, f, D, Pl, hcs, _, hl, hm, hmm, hx, hi⟩
  · simp only [List.cons.injEq, and_true] at hcs
    subst hcs
    obtain ⟨l, hl⟩ := pairs_in Try.underlying50 (by kernel_rfl) hp h
    exact ⟨none, 0, 0, l, rfl, Nat.le_refl _, hl, by omega⟩
  · simp only [List.cons.injEq, and_true] at hcs
    subst hcs
    obtain ⟨l, hl2⟩ := pairs_in Try.underlying50 (by kernel_rfl) hp h
    rw [hx] at hs
    have hlen := hs.len Try.underlying50
    rw [show Try.prog.bytesOf 97 = 16 by kernel_rfl] at hlen
    simp only [List.length_map, List.length_range] at hlen
    exact ⟨some a, len, cap, l, rfl, hl, hl2, by omega⟩
set_option maxRecDepth 100000 in
theorem postsSz {A : Option Addr} {n c : Nat} {x : DataW H × List MemPlace} {fuel : Nat} {base : Nat} {spare : Nat → Bool} {held : Bool} (h : DataW.trod enc Try.prog w base spare held fuel 45 [.slice A n c] = some x) (hs : Sized 45 x.1) : ∃ l, PostsSz w A n l := by
  rcases open_slice_pairs Try.underlying45 Try.underlying52 (by kernel_rfl) rfl rfl (by kernel_rfl) (by kernel_rfl) h with ⟨hcs, _⟩ | ⟨a, len, cap, m, nn, V0, V1, D0, D1, P0, P1, hcs, _, hl, hm, hmm, hx, hi⟩
  · simp only [List.cons.injEq, Value.slice.injEq, and_true] at hcs
    obtain ⟨rfl, rfl, rfl⟩ := hcs
    exact ⟨[], PostsSee.nil0 w, by simp, by omega⟩
  · simp only [List.cons.injEq, Value.slice.injEq, and_true] at hcs
    obtain ⟨rfl, rfl, rfl⟩ := hcs
    have hlm : n ≤ m := by rw [hmm]; split <;> omega
    rw [hx] at hs
    have hlen := hs.len Try.underlying45
    rw [show Try.prog.bytesOf 52 = 32 by kernel_rfl] at hlen
    simp only [List.length_map, List.length_range] at hlen
    have hex : ∀ i, i < n → ∃ y : Pst, y.2.length ≤ 140737488351232 ∧ fits64 y.1 ∧ w.cell? (a.add (i * 2)) = some (.int .i64 y.1) ∧ ∃ B cb, w.cell? (a.add (i * 2 + 1)) = some (.slice B y.2.length cb) ∧ y.2.length ≤ cb ∧ PairsIn w B y.2.length y.2 := by
      intro i hlt
      obtain ⟨c0, c1, d0, d1⟩ := hi i (by omega)
      have hsi : Sized 52 (.agg [D0 i, D1 i]) := hs.elem Try.underlying45 (List.mem_map.2 ⟨i, List.mem_range.2 hlt, rfl⟩)
      have hs1 : Sized 50 (D1 i) := hsi.field Try.underlying52 (j := 1) rfl rfl
      obtain ⟨z, ez, _, wz⟩ := DataW.trod_int Try.underlying2 d0
      simp only [List.cons.injEq, and_true] at ez
      simp [Lit.wf, IntKind.min, IntKind.max, IntKind.signed, IntKind.bits] at wz
      obtain ⟨B, bn, cb, l, e1, h1, h2, h3⟩ := spots_in d1 hs1
      have hll := h2.len
      subst hll
      rw [ez] at c0
      rw [e1] at c1
      exact ⟨(z, l), h3, by unfold fits64; simp only; omega, c0, B, cb, c1, h1, h2⟩
    have hw : ∀ k, k ≤ n → ∃ L : List Pst, L.length = k ∧ (∀ y ∈ L, y.2.length ≤ 140737488351232) ∧ ∀ (i : Nat) (y : Pst), L[i]? = some y → fits64 y.1 ∧ w.cell? (a.add (i * 2)) = some (.int .i64 y.1) ∧ ∃ B cb, w.cell? (a.add (i * 2 + 1)) = some (.slice B y.2.length cb) ∧ y.2.length ≤ cb ∧ PairsIn w B y.2.length y.2 := by
      intro k
      induction k with
      | zero => intro _; exact ⟨[], rfl, by simp, by simp⟩
      | succ k ih =>
        intro hk
        obtain ⟨L, h1, h0, h2⟩ := ih (by omega)
        obtain ⟨y, h3, h4⟩ := hex k (by omega)
        refine ⟨L ++ [y], by simp [h1], fun z hz => ?_, fun i z hz => ?_⟩
        · rcases List.mem_append.1 hz with h | h
          · exact h0 z h
          · rw [List.mem_singleton.1 h]; exact h3
        · rcases Nat.lt_or_ge i k with hik | hik
          · rw [List.getElem?_append_left (by omega)] at hz
            exact h2 i z hz
          · have hlt := (List.getElem?_eq_some_iff.1 hz).1
            simp [h1] at hlt
            obtain rfl : i = k := by omega
            rw [List.getElem?_append_right (by omega), h1, Nat.sub_self] at hz
            simp at hz
            subst hz
            exact h4
    obtain ⟨L, h1, h0, h2⟩ := hw n (Nat.le_refl _)
    exact ⟨L, ⟨h1, by omega, (fun e => by cases e), fun ad e i y hy => by cases e; exact h2 i y hy⟩, h0, by omega⟩
end
end Go.Proofs.Ytkligdaademakaa
