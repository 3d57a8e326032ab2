/- Manifests that came in. -/
import Derived.Test.YtmhiekbpmoikfaaGreatDoorZp10
import Derived.Test.YtmhiekbpmoikfaaGreatDoorZp9
import Derived.WalkKit
import Derived.ProofKit
import Derived.OpenShut
import Derived.ChangeOld
import Derived.Lib.SmallJoins
namespace Go.Proofs.YtmhiekbpmoikfaaGreatDoor
open Go.ChangeShapes Go.WideShapes Go.ChangeAt Go.RowKit Go.Deep
set_option linter.unusedSimpArgs false

theorem mv_drop1 (cs : List Value) (j : Nat) (h : j < cs.length) : (cs.drop j).take 1 = [cs[j]] := by
  rw [List.drop_eq_getElem_cons h]; rfl
theorem mv_fits {z : Int} (h : -9223372036854775808 ≤ z ∧ z ≤ 9223372036854775807) : fits64 z := ⟨by omega, by omega⟩
theorem mv_row {α : Type} {n : Nat} {P : Nat → α → Prop} (h : ∀ i, i < n → ∃ y, P i y) : ∃ L : List α, L.length = n ∧ ∀ (i : Nat) (y : α), L[i]? = some y → P i y := by
  have hw : ∀ k, k ≤ n → ∃ L : List α, L.length = k ∧ ∀ (i : Nat) (y : α), L[i]? = some y → P i y := by
    intro k
    induction k with
    | zero => intro _; exact ⟨[], rfl, by simp⟩
    | succ k ih =>
      intro hk
      obtain ⟨L, h1, h2⟩ := ih (by omega)
      obtain ⟨y, h3⟩ := h k (by omega)
      refine ⟨L ++ [y], by simp [h1], fun i z hz => ?_⟩
      rcases Nat.lt_or_ge i k with hik | hik
      · rw [List.getElem?_append_left (by omega)] at hz
        exact h2 i z hz
      · have hlt := (List.getElem?_eq_some_iff.1 hz).1
        simp [h1] at hlt
        obtain rfl : i = k := by omega
        rw [List.getElem?_append_right (by omega), h1, Nat.sub_self] at hz
        simp at hz
        subst hz
        exact h3
  exact hw n (Nat.le_refl _)
section
variable {H : Type} {enc : TypeId × Value → H} {w : World}
set_option maxRecDepth 100000 in
theorem ref_in {cs : List Value} {x : DataW H × List MemPlace} {fuel : Nat} {base : Nat} {spare : Nat → Bool} {held : Bool} (h : DataW.trod enc Tryz.prog w base spare held fuel 88 cs = some x) : ∃ r : Rf, cs = rfCells r ∧ rfBound r := by
  obtain ⟨ys, m, _, hx, hlen, _, hf⟩ := DataW.trod_struct Tryz.underlying88 h
  have hl : cs.length = 4 := by rw [hlen]; kernel_rfl
  have cI : Tryz.prog.cellsOf 3 = 1 := by kernel_rfl
  have cL : Tryz.prog.cellsOf 2 = 1 := by kernel_rfl
  have f0 : DataW.trod enc Tryz.prog w base spare held m 2 ((cs.drop 0).take (Tryz.prog.cellsOf 2)) = ys[0]? := hf 0 _ rfl
  have f1 : DataW.trod enc Tryz.prog w base spare held m 3 ((cs.drop 1).take (Tryz.prog.cellsOf 3)) = ys[1]? := hf 1 _ rfl
  have f2 : DataW.trod enc Tryz.prog w base spare held m 3 ((cs.drop 2).take (Tryz.prog.cellsOf 3)) = ys[2]? := hf 2 _ rfl
  have f3 : DataW.trod enc Tryz.prog w base spare held m 2 ((cs.drop 3).take (Tryz.prog.cellsOf 2)) = ys[3]? := hf 3 _ rfl
  have hy : ys.length = 4 := by assumption
  rw [cL, mv_drop1 _ _ (by omega), List.getElem?_eq_getElem (by omega)] at f0 f3
  rw [cI, mv_drop1 _ _ (by omega), List.getElem?_eq_getElem (by omega)] at f1 f2
  obtain ⟨z0, e0, _, w0⟩ := DataW.trod_int Tryz.underlying2 f0
  obtain ⟨z1, e1, _, w1⟩ := DataW.trod_int Tryz.underlying3 f1
  obtain ⟨z2, e2, _, w2⟩ := DataW.trod_int Tryz.underlying3 f2
  obtain ⟨z3, e3, _, w3⟩ := DataW.trod_int Tryz.underlying2 f3
  simp only [List.cons.injEq, and_true] at e0 e1 e2 e3
  simp [Lit.wf, IntKind.min, IntKind.max, IntKind.signed, IntKind.bits] at w0 w1 w2 w3
  refine ⟨⟨z0, z1, z2, z3⟩, ?_, ⟨mv_fits w0, mv_fits w1, mv_fits w2, mv_fits w3⟩⟩
  apply List.ext_getElem
  · rw [hl]; rfl
  · intro j hj _
    have : j < 4 := by omega
    match j, this with
    | 0, _ => exact e0
    | 1, _ => exact e1
    | 2, _ => exact e2
    | 3, _ => exact e3
set_option maxRecDepth 100000 in
theorem refs_in {A : Value} {x : DataW H × List MemPlace} {fuel : Nat} {base : Nat} {spare : Nat → Bool} {held : Bool} (h : DataW.trod enc Tryz.prog w base spare held fuel 22 [A] = some x) (hs : Sized 22 x.1) :
    ∃ (C : Option Addr) (n c : Nat) (L : List Rf), A = .slice C n c ∧ n ≤ c ∧ RefsIn w C n L := by
  rcases open_slice Tryz.underlying22 h with ⟨hcs, _⟩ | ⟨a, len, cap, m, f, D, Pl, hcs, _, hl, hm, hmm, hx, hi⟩
  · simp only [List.cons.injEq, and_true] at hcs
    exact ⟨none, 0, 0, [], hcs, Nat.le_refl _, rfl, Nat.zero_le _, fun _ => rfl, fun k r hr => by simp at hr⟩
  · simp only [List.cons.injEq, and_true] at hcs
    have hlm : len ≤ m := by rw [hmm]; split <;> omega
    have cO : Tryz.prog.cellsOf 88 = 4 := by kernel_rfl
    rw [hx] at hs
    have hlen := hs.len Tryz.underlying22
    rw [show Tryz.prog.bytesOf 88 = 32 by kernel_rfl] at hlen
    simp only [List.length_map, List.length_range] at hlen
    have hex : ∀ i, i < len → ∃ r : Rf, rfBound r ∧ ∀ (j : Nat) (v : Value), (rfCells r)[j]? = some v → w.cell? (a.add (i * 4 + j)) = some v := by
      intro i hlt
      obtain ⟨cs', hc, ht⟩ := hi i (by omega)
      rw [cO] at hc
      obtain ⟨r, rfl, hr⟩ := ref_in ht
      obtain ⟨_, _, hat⟩ := World.cells?_some hc
      refine ⟨r, hr, fun j v hv => ?_⟩
      have hj : j < 4 := (List.getElem?_eq_some_iff.1 hv).1
      rw [← add_add]
      rw [hat j hj]
      exact hv
    obtain ⟨L, h1, h2⟩ := mv_row hex
    refine ⟨some a, len, cap, L, hcs, hl, h1, by unfold maxLen; omega, (fun e => by cases e), fun k r hr => ?_⟩
    obtain ⟨hb, hc⟩ := h2 k r hr
    have c0 := hc 0 _ rfl
    have c1 := hc 1 _ rfl
    have c2 := hc 2 _ rfl
    have c3 := hc 3 _ rfl
    rw [Nat.add_zero] at c0
    rw [add_pos a (k * 4) _ (by omega)] at c1 c2 c3
    refine ⟨a, rfl, ?_, c0, c1, c2, c3, hb⟩
    have := World.block_lt_of_cell? w _ c0
    rwa [addBlock] at this
set_option maxRecDepth 100000 in
/-- A manifest's three cells. -/
theorem man_in {cs : List Value} {x : DataW H × List MemPlace} {fuel : Nat} {base : Nat} {spare : Nat → Bool} {held : Bool} (h : DataW.trod enc Tryz.prog w base spare held fuel 24 cs = some x) (hs : Sized 24 x.1) :
    ∃ (m : Mf) (A : Option Addr) (n c : Nat), cs = [.int .i64 m.gen, .int .i64 m.next, .slice A n c] ∧ n ≤ c ∧ RefsIn w A n m.refs ∧ fits64 m.gen ∧ fits64 m.next := by
  obtain ⟨ys, m, _, hx, hlen, _, hf⟩ := DataW.trod_struct Tryz.underlying24 h
  have hl : cs.length = 3 := by rw [hlen]; kernel_rfl
  have cR : Tryz.prog.cellsOf 22 = 1 := by kernel_rfl
  have cL : Tryz.prog.cellsOf 2 = 1 := by kernel_rfl
  have f0 : DataW.trod enc Tryz.prog w base spare held m 2 ((cs.drop 0).take (Tryz.prog.cellsOf 2)) = ys[0]? := hf 0 _ rfl
  have f1 : DataW.trod enc Tryz.prog w base spare held m 2 ((cs.drop 1).take (Tryz.prog.cellsOf 2)) = ys[1]? := hf 1 _ rfl
  have f2 : DataW.trod enc Tryz.prog w base spare held m 22 ((cs.drop 2).take (Tryz.prog.cellsOf 22)) = ys[2]? := hf 2 _ rfl
  have hy : ys.length = 3 := by assumption
  rw [cL, mv_drop1 _ _ (by omega), List.getElem?_eq_getElem (by omega)] at f0 f1
  rw [cR, mv_drop1 _ _ (by omega), List.getElem?_eq_getElem (by omega)] at f2
  rw [hx] at hs
  have s2 : Sized 22 (ys[2]).1 := hs.field Tryz.underlying24 (j := 2) rfl (by rw [List.getElem?_map, List.getElem?_eq_getElem (by omega)]; rfl)
  obtain ⟨z0, e0, _, w0⟩ := DataW.trod_int Tryz.underlying2 f0
  obtain ⟨z1, e1, _, w1⟩ := DataW.trod_int Tryz.underlying2 f1
  obtain ⟨A, n, c, L, e2, hc, hr⟩ := refs_in f2 s2
  simp only [List.cons.injEq, and_true] at e0 e1
  simp [Lit.wf, IntKind.min, IntKind.max, IntKind.signed, IntKind.bits] at w0 w1
  refine ⟨⟨z0, z1, L⟩, A, n, c, ?_, hc, hr, mv_fits w0, mv_fits w1⟩
  apply List.ext_getElem
  · rw [hl]; rfl
  · intro j hj _
    have : j < 3 := by omega
    match j, this with
    | 0, _ => exact e0
    | 1, _ => exact e1
    | 2, _ => exact e2
set_option maxRecDepth 100000 in
theorem man_val {r : Reach} {b0 : Nat} {v : Value} {d : DataW H} {p : List MemPlace} {base : Nat} {spare : Nat → Bool} {held : Bool} (hv : Value.okWide Tryz.prog w r b0 24 v) (h : DataW.Trod enc Tryz.prog w base spare held 24 v d p) (hs : Sized 24 d) :
    ∃ (m : Mf) (A : Option Addr) (n c : Nat), v = .agg #[.int .i64 m.gen, .int .i64 m.next, .slice A n c] ∧ n ≤ c ∧ RefsIn w A n m.refs ∧ fits64 m.gen ∧ fits64 m.next := by
  obtain ⟨cs, rfl, hsz⟩ := okWide_struct Tryz.underlying24 hv
  obtain ⟨fuel, hf⟩ := h
  obtain ⟨m, A, n, c, e, h1, h2, h3, h4⟩ := man_in (cs := cs.toList) hf hs
  refine ⟨m, A, n, c, ?_, h1, h2, h3, h4⟩
  have : cs = #[.int .i64 m.gen, .int .i64 m.next, .slice A n c] := by
    apply Array.ext'
    exact e
  rw [this]
set_option maxRecDepth 100000 in
/-- A crash that came in: its number and its cuts. -/
theorem crash_in {r : Reach} {b0 : Nat} {v : Value} {d : DataW H} {p : List MemPlace} {base : Nat} {spare : Nat → Bool} {held : Bool} (hv : Value.okWide Tryz.prog w r b0 48 v) (h : DataW.Trod enc Tryz.prog w base spare held 48 v d p) :
    ∃ (acts : Int) (C : Option Addr) (k cc : Nat) (cs : List Int), v = .agg #[.int .i64 acts, .slice C k cc] ∧ acts ≤ 9223372036854775807 ∧ CutsIn w C k cs := by
  obtain ⟨v0, v1, y0, y1, n, rfl, _, _, h0, h1⟩ := Go.Joins.open_agg2 Tryz.underlying48 (by kernel_rfl) (by kernel_rfl) hv h
  obtain ⟨acts, he, _, hw⟩ := DataW.trod_int Tryz.underlying3 h0
  simp only [List.cons.injEq, and_true] at he
  subst he
  simp [Lit.wf, IntKind.min, IntKind.max, IntKind.signed, IntKind.bits] at hw
  have hs : ∃ C k cc, v1 = .slice C k cc := by
    rcases open_ints Tryz.underlying46 Tryz.underlying3 (by kernel_rfl) h1 with ⟨hcs, _⟩ | ⟨a, l, cp, zs, hcs, _⟩
    · simp only [List.cons.injEq, and_true] at hcs
      exact ⟨_, _, _, hcs⟩
    · simp only [List.cons.injEq, and_true] at hcs
      exact ⟨_, _, _, hcs⟩
  obtain ⟨C, k, cc, rfl⟩ := hs
  obtain ⟨cs, hcs⟩ := cuts_in h1
  exact ⟨acts, C, k, cc, cs, rfl, by omega, hcs⟩
end
end Go.Proofs.YtmhiekbpmoikfaaGreatDoor
