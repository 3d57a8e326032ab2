/- Slices of structs of two integers that came in, of whatever name. -/
import Derived.Test.YtmnofmcfkchebaaKCore
import Derived.Deep.Fields
namespace Go.Proofs.Ytmnofmcfkchebaa
open Go.RowKit Go.Maps Go.WideMaps Go.ChangeShapes Go.WideShapes Go.ChangeAt Go.Deep

def fits64 (x : Int) : Prop := -9223372036854775808 ≤ x ∧ x ≤ 9223372036854775807
/-- A slice of pairs that came in. -/
structure PairsIn (w : World) (A : Option Addr) (n : Nat) (l : List (Int × Int)) : Prop where
  len : l.length = n
  fit : n ≤ maxLen
  vals : ∀ p ∈ l, fits64 p.1 ∧ fits64 p.2
  nil : A = none → n = 0
  cells : ∀ ad, A = some ad → ∀ (i : Nat) (p : Int × Int), l[i]? = some p → w.cell? (ad.add (i * 2)) = some (.int .i64 p.1) ∧ w.cell? (ad.add (i * 2 + 1)) = some (.int .i64 p.2)
theorem PairsIn.below {w w' : World} {A : Option Addr} {n : Nat} {l : List (Int × Int)} (h : PairsIn w A n l) (hb : Below w.heap.size w w') : PairsIn w' A n l :=
  ⟨h.len, h.fit, h.vals, h.nil, fun ad e i p hp => by
    obtain ⟨h1, h2⟩ := h.cells ad e i p hp
    exact ⟨(hb.cell (World.block_lt_of_cell? w _ h1)).trans h1, (hb.cell (World.block_lt_of_cell? w _ h2)).trans h2⟩⟩
theorem add_pos' (ad : Addr) (i j : Nat) (h : 0 < j) : ad.add (i + j) = ⟨(ad.add i).block, (ad.add i).off + j, none⟩ := by
  unfold Addr.add
  split <;> split <;> (first | rfl | (simp_all; done) | (simp_all; omega) | (simp; omega))
/-- Where a pair lies, and its bounds. -/
theorem PairsIn.at {w : World} {A : Option Addr} {n : Nat} {l : List (Int × Int)} (h : PairsIn w A n l) (k : Nat) (hk : k < n) :
    ∃ ad p, A = some ad ∧ l[k]? = some p ∧ w.cell? (ad.add (k * 2)) = some (.int .i64 p.1) ∧ w.cell? ⟨(ad.add (k * 2)).block, (ad.add (k * 2)).off + 1, none⟩ = some (.int .i64 p.2) ∧ fits64 p.1 ∧ fits64 p.2 := by
  have hl := h.len
  cases hA : A with
  | none => have := h.nil hA; omega
  | some ad =>
    subst hA
    have hx : l[k]? = some (l[k]'(by omega)) := List.getElem?_eq_getElem _
    obtain ⟨h1, h2⟩ := h.cells ad rfl k _ hx
    have hv := h.vals _ (List.getElem_mem (h := (by omega : k < l.length)))
    rw [add_pos' _ _ _ (by omega)] at h2
    exact ⟨ad, _, rfl, hx, h1, h2, hv.1, hv.2⟩
section
variable {H : Type} {enc : TypeId × Value → H} {w : World}
set_option maxRecDepth 100000 in
theorem pair_in {e : TypeId} {fs : Array Field} {f0 f1 : Field} (he : Try.prog.underlying e = some (.struct fs)) (hf0 : fs[0]? = some f0) (hf1 : fs[1]? = some f1) (hs2 : fs.size = 2) (h2 : Try.prog.cellsOf e = 2)
    (t0 : Try.prog.underlying f0.type = some (.int .i64)) (t1 : Try.prog.underlying f1.type = some (.int .i64)) (c0 : Try.prog.cellsOf f0.type = 1) (c1 : Try.prog.cellsOf f1.type = 1) (o0 : f0.offset = 0) (o1 : f1.offset = 1)
    {cs : List Value} {x : DataW H × List MemPlace} {fuel : Nat} {base : Nat} {spare : Nat → Bool} {held : Bool} (h : DataW.trod enc Try.prog w base spare held fuel e cs = some x) :
    ∃ p : Int × Int, cs = [.int .i64 p.1, .int .i64 p.2] ∧ fits64 p.1 ∧ fits64 p.2 := by
  obtain ⟨ys, m, _, _, hlen, hy, hf⟩ := DataW.trod_struct he h
  rw [h2] at hlen
  have g0 := hf 0 _ hf0
  have g1 := hf 1 _ hf1
  rw [c0, o0, List.getElem?_eq_getElem (by omega)] at g0
  rw [c1, o1, List.getElem?_eq_getElem (by omega)] at g1
  match cs, hlen with
  | [a, b], _ =>
    simp only [List.drop_zero, List.drop_succ_cons, List.take_succ_cons, List.take_zero] at g0 g1
    obtain ⟨n0, e0, _, w0⟩ := DataW.trod_int t0 g0
    obtain ⟨n1, e1, _, w1⟩ := DataW.trod_int t1 g1
    simp only [List.cons.injEq, and_true] at e0 e1
    simp [Lit.wf, IntKind.min, IntKind.max, IntKind.signed, IntKind.bits] at w0 w1
    subst e0 e1
    exact ⟨(n0, n1), rfl, ⟨by show -9223372036854775808 ≤ n0; omega, by show n0 ≤ 9223372036854775807; omega⟩, ⟨by show -9223372036854775808 ≤ n1; omega, by show n1 ≤ 9223372036854775807; omega⟩⟩
theorem pairs_in {t e : TypeId} (ht : Try.prog.underlying t = some (.slice e)) (h2 : Try.prog.cellsOf e = 2)
    (hp : ∀ {cs : List Value} {x : DataW H × List MemPlace} {fuel : Nat} {base : Nat} {spare : Nat → Bool} {held : Bool}, DataW.trod enc Try.prog w base spare held fuel e cs = some x → ∃ p : Int × Int, cs = [.int .i64 p.1, .int .i64 p.2] ∧ fits64 p.1 ∧ fits64 p.2)
    {A : Option Addr} {n c : Nat} {x : DataW H × List MemPlace} {fuel : Nat} {base : Nat} {spare : Nat → Bool} {held : Bool} (h : DataW.trod enc Try.prog w base spare held fuel t [.slice A n c] = some x) : ∃ l, PairsIn w A n l := by
  rcases open_slice ht h with ⟨hcs, _⟩ | ⟨a, len, cap, m, f, D, Pl, hcs, _, hl, hm, hmm, hx, hi⟩
  · simp only [List.cons.injEq, Value.slice.injEq, and_true] at hcs
    obtain ⟨rfl, rfl, rfl⟩ := hcs
    exact ⟨[], rfl, by unfold maxLen; omega, by simp, fun _ => rfl, fun ad e => by cases e⟩
  · simp only [List.cons.injEq, Value.slice.injEq, and_true] at hcs
    obtain ⟨rfl, rfl, rfl⟩ := hcs
    have hlm : n ≤ m := by rw [hmm]; split <;> omega
    have hex : ∀ i, i < n → ∃ p : Int × Int, (fits64 p.1 ∧ fits64 p.2) ∧ w.cell? (a.add (i * 2)) = some (.int .i64 p.1) ∧ w.cell? (a.add (i * 2 + 1)) = some (.int .i64 p.2) := by
      intro i hlt
      obtain ⟨cs', hc, hd⟩ := hi i (by omega)
      rw [h2] at hc
      obtain ⟨p, rfl, h3, h4⟩ := hp hd
      obtain ⟨_, _, hat⟩ := World.cells?_some hc
      have k0 := hat 0 (by simp)
      have k1 := hat 1 (by simp)
      rw [add_add] at k0 k1
      exact ⟨p, ⟨h3, h4⟩, k0, k1⟩
    have hw : ∀ k, k ≤ n → ∃ l : List (Int × Int), l.length = k ∧ (∀ p ∈ l, fits64 p.1 ∧ fits64 p.2) ∧ ∀ (i : Nat) (p : Int × Int), l[i]? = some p → w.cell? (a.add (i * 2)) = some (.int .i64 p.1) ∧ w.cell? (a.add (i * 2 + 1)) = some (.int .i64 p.2) := by
      intro k
      induction k with
      | zero => intro _; exact ⟨[], rfl, by simp, by simp⟩
      | succ k ih =>
        intro hk
        obtain ⟨l, h1, h3, h4⟩ := ih (by omega)
        obtain ⟨p, h5, h6⟩ := hex k (by omega)
        refine ⟨l ++ [p], by simp [h1], fun y hy => ?_, fun i y hy => ?_⟩
        · rcases List.mem_append.1 hy with h | h
          · exact h3 y h
          · rw [List.mem_singleton.1 h]; exact h5
        · rcases Nat.lt_or_ge i k with hik | hik
          · rw [List.getElem?_append_left (by omega)] at hy
            exact h4 i y hy
          · have hlt := (List.getElem?_eq_some_iff.1 hy).1
            simp [h1] at hlt
            obtain rfl : i = k := by omega
            rw [List.getElem?_append_right (by omega), h1, Nat.sub_self] at hy
            simp at hy
            subst hy
            exact h6
    obtain ⟨l, h1, h3, h4⟩ := hw n (Nat.le_refl _)
    exact ⟨l, h1, by omega, h3, (fun e => by cases e), fun ad e => by cases e; exact h4⟩
end
end Go.Proofs.Ytmnofmcfkchebaa
