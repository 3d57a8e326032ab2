/- Rows of postings made of what came in. -/
import Derived.Test.YtmcoooepoikgjaaKPostsG
import Derived.Test.YtmcoooepoikgjaaKOwn
namespace Go.Proofs.Ytmcoooepoikgjaa
open Go.RowKit Go.Maps Go.WideMaps

/-- What a struct of a posting holds. -/
def RowOf (w : World) (x : Int × List (Int × Int)) (p : Int × Value) : Prop := p.1 = x.1 ∧ fits64 x.1 ∧ ∃ B c, p.2 = .slice B x.2.length c ∧ x.2.length ≤ c ∧ PairsIn w B x.2.length x.2
theorem RowOf.below {w w' : World} {x : Int × List (Int × Int)} {p : Int × Value} (h : RowOf w x p) (hb : Below w.heap.size w w') : RowOf w' x p := by
  obtain ⟨h1, h2, B, c, h3, h4, h5⟩ := h
  exact ⟨h1, h2, B, c, h3, h4, h5.below hb⟩
theorem RowOf.one {w : World} {x : Int × List (Int × Int)} {p : Int × Value} (h : RowOf w x p) : ∀ u ∈ docCells p, u.oneCell' = true := by
  obtain ⟨p1, p2⟩ := p
  obtain ⟨_, _, B, c, h3, _⟩ := h
  simp only at h3
  subst h3
  exact doc_one _ _ _ _
/-- All structs of such a row. -/
structure RowsOf (w : World) (A : Option Addr) (l : List (Int × List (Int × Int))) (R : List (Int × Value)) : Prop where
  len : R.length = l.length
  row : ∀ (i : Nat) (p : Int × Value) (x : Int × List (Int × Int)), R[i]? = some p → l[i]? = some x → RowOf w x p
  cells : ∀ ad, A = some ad → ∀ (i : Nat) (p : Int × Value), R[i]? = some p → w.cell? (ad.add (i * 2)) = some (.int .i64 p.1) ∧ w.cell? (ad.add (i * 2 + 1)) = some p.2
theorem PostsSee.rows {w : World} {A : Option Addr} {n : Nat} {l : List (Int × List (Int × Int))} (h : PostsSee w A n l) : ∃ R, RowsOf w A l R := by
  cases A with
  | none =>
    have h0 := h.nil rfl
    have hl : l = [] := List.eq_nil_of_length_eq_zero (by rw [h.len]; exact h0)
    subst hl
    exact ⟨[], rfl, fun i p x h _ => by simp at h, fun ad e => by cases e⟩
  | some ad =>
    have hw : ∀ k, k ≤ l.length → ∃ R : List (Int × Value), R.length = k ∧ (∀ (i : Nat) (p : Int × Value) (x : Int × List (Int × Int)), R[i]? = some p → l[i]? = some x → RowOf w x p) ∧ ∀ (i : Nat) (p : Int × Value), R[i]? = some p → w.cell? (ad.add (i * 2)) = some (.int .i64 p.1) ∧ w.cell? (ad.add (i * 2 + 1)) = some p.2 := by
      intro k
      induction k with
      | zero => intro _; exact ⟨[], rfl, fun i p x h _ => (by simp at h), fun i p h => by simp at h⟩
      | succ k ih =>
        intro hk
        obtain ⟨R, h1, h2, h3⟩ := ih (by omega)
        have hx : l[k]? = some (l[k]'(by omega)) := List.getElem?_eq_getElem _
        obtain ⟨q1, q2, B, c, q3, q4, q5⟩ := h.at_ ad rfl k _ hx
        refine ⟨R ++ [((l[k]'(by omega)).1, .slice B (l[k]'(by omega)).2.length c)], by simp [h1], fun i p x e1 e2 => ?_, fun i p e1 => ?_⟩
        · rcases Nat.lt_or_ge i k with hi | hi
          · rw [List.getElem?_append_left (by omega)] at e1
            exact h2 i p x e1 e2
          · have hlt := (List.getElem?_eq_some_iff.1 e1).1
            simp [h1] at hlt
            obtain rfl : i = k := by omega
            rw [List.getElem?_append_right (by omega), h1, Nat.sub_self] at e1
            simp at e1
            rw [hx] at e2
            cases e2
            subst e1
            exact ⟨rfl, q1, B, c, rfl, q4, q5⟩
        · rcases Nat.lt_or_ge i k with hi | hi
          · rw [List.getElem?_append_left (by omega)] at e1
            exact h3 i p e1
          · have hlt := (List.getElem?_eq_some_iff.1 e1).1
            simp [h1] at hlt
            obtain rfl : i = k := by omega
            rw [List.getElem?_append_right (by omega), h1, Nat.sub_self] at e1
            simp at e1
            subst e1
            exact ⟨q2, q3⟩
    obtain ⟨R, h1, h2, h3⟩ := hw l.length (Nat.le_refl _)
    exact ⟨R, h1, h2, fun ad' e => by cases e; exact h3⟩
theorem RowsOf.below {w w' : World} {A : Option Addr} {l : List (Int × List (Int × Int))} {R : List (Int × Value)} (h : RowsOf w A l R) (hb : Below w.heap.size w w') : RowsOf w' A l R :=
  ⟨h.len, fun i p x e1 e2 => (h.row i p x e1 e2).below hb, fun ad e i p hp => by
    obtain ⟨h1, h2⟩ := h.cells ad e i p hp
    exact ⟨below_cells hb h1, below_cells hb h2⟩⟩
theorem RowsOf.one {w : World} {A : Option Addr} {l : List (Int × List (Int × Int))} {R : List (Int × Value)} (h : RowsOf w A l R) : ∀ u ∈ R.flatMap docCells, u.oneCell' = true := by
  intro u hu
  obtain ⟨p, hp, hup⟩ := List.mem_flatMap.1 hu
  obtain ⟨i, hi⟩ := List.getElem?_of_mem hp
  have hlt := (List.getElem?_eq_some_iff.1 hi).1
  exact (h.row i p (l[i]'(by rw [← h.len]; exact hlt)) hi (List.getElem?_eq_getElem _)).one u hup
theorem doc_get : ∀ (R : List (Int × Value)) (j : Nat) (u : Value), (R.flatMap docCells)[j]? = some u → ∃ i r p, j = i * 2 + r ∧ r < 2 ∧ R[i]? = some p ∧ (docCells p)[r]? = some u
  | [], j, u, h => by simp at h
  | a :: R, j, u, h => by
    rw [List.flatMap_cons] at h
    have hl : (docCells a).length = 2 := rfl
    rcases Nat.lt_or_ge j 2 with hj | hj
    · rw [List.getElem?_append_left (by omega)] at h
      exact ⟨0, j, a, by omega, hj, rfl, h⟩
    · rw [List.getElem?_append_right (by omega), hl] at h
      obtain ⟨i, r, p, h1, h2, h3, h4⟩ := doc_get R (j - 2) u h
      exact ⟨i + 1, r, p, by omega, h2, by simpa using h3, h4⟩
theorem add_add (ad : Addr) (a b : Nat) : (ad.add a).add b = ad.add (a + b) := by
  unfold Addr.add
  by_cases h1 : b = 0
  · subst h1; simp
  · by_cases h2 : a = 0
    · subst h2; simp
    · rw [if_neg h1, if_neg h2, if_neg (by omega)]
      simp [Nat.add_assoc]
/-- A piece of the row, as a source. -/
theorem RowsOf.src {w : World} {ad : Addr} {l : List (Int × List (Int × Int))} {R : List (Int × Value)} (h : RowsOf w (some ad) l R) (a m : Nat) : ∀ (j : Nat) (u : Value), (((R.drop a).take m).flatMap docCells)[j]? = some u → w.cell? ((ad.add (a * 2)).add j) = some u := by
  intro j u hu
  obtain ⟨i, r, p, rfl, hr, hp, hu2⟩ := doc_get _ j u hu
  rw [List.getElem?_take] at hp
  split at hp
  · rw [List.getElem?_drop] at hp
    obtain ⟨c0, c1⟩ := h.cells ad rfl (a + i) p hp
    rw [add_add]
    match r, hr with
    | 0, _ =>
      simp [docCells] at hu2
      subst hu2
      rw [show a * 2 + (i * 2 + 0) = (a + i) * 2 by omega]
      exact c0
    | 1, _ =>
      simp [docCells] at hu2
      subst hu2
      rw [show a * 2 + (i * 2 + 1) = (a + i) * 2 + 1 by omega]
      exact c1
  · cases hp
/-- A row of one's own of such structs is postings. -/
theorem row_see {w : World} {base n c : Nat} {A : Option Addr} {L : List (Int × List (Int × Int))} {R : List (Int × Value)} (ho : w.ownsRow base 36 2 (.slice A n c) n (R.flatMap docCells)) (hl : L.length = n) (hR : R.length = n) (h63 : n ≤ maxLen)
    (hr : ∀ (i : Nat) (p : Int × Value) (x : Int × List (Int × Int)), R[i]? = some p → L[i]? = some x → RowOf w x p) : PostsSee w A n L where
  len := hl
  fit := h63
  nil := fun e => by
    rcases ho.2 with ⟨_, h3⟩ | ⟨g, cap, cur, h3, _⟩
    · exact h3
    · rw [e] at h3; cases h3
  at_ := fun ad e i x hx => by
    subst e
    have hz : ad = ⟨ad.block, 0, none⟩ := by
      rcases ho.2 with ⟨h3, _⟩ | ⟨g, cap, cur, h3, _⟩
      · cases h3
      · cases h3; rfl
    have hlt := (List.getElem?_eq_some_iff.1 hx).1
    obtain ⟨p, hp⟩ : ∃ p, R[i]? = some p := ⟨_, List.getElem?_eq_getElem (by omega)⟩
    obtain ⟨q1, q2, B, cc, q3, q4, q5⟩ := hr i p x hp hx
    have hc := fun j u (hj : (docCells p)[j]? = some u) => ho.cells (g := ad.block) rfl (i * 2 + j) u (doc_at R i j p u hp hj)
    have c0 := hc 0 _ rfl
    have c1 := hc 1 _ rfl
    have ha : ∀ k, (⟨ad.block, 0, none⟩ : Addr).add k = ⟨ad.block, k, none⟩ := fun k => by
      unfold Addr.add
      split
      · rename_i h0; rw [h0]
      · simp
    rw [ha] at c0 c1
    refine ⟨q2, ?_, B, cc, ?_, q4, q5⟩
    · rw [hz, ha, ← q1]; exact c0
    · rw [hz, ha, ← q3]; exact c1
theorem PairsIn.nil0 (w : World) : PairsIn w none 0 [] := ⟨rfl, by unfold maxLen; omega, fun p h => (by cases h), fun _ => rfl, fun ad e => by cases e⟩
/-- The spots of one posting are gone. -/
theorem row_shed {w w0 : World} {base n c g : Nat} {L : List (Int × List (Int × Int))} {R : List (Int × Value)} (ho : w.ownsRow base 36 2 (.slice (some ⟨g, 0, none⟩) n c) n (R.flatMap docCells)) (hl : L.length = n) (hR : R.length = n) (h63 : n ≤ maxLen)
    (hr : ∀ (i : Nat) (p : Int × Value) (x : Int × List (Int × Int)), R[i]? = some p → L[i]? = some x → RowOf w0 x p) (hb : Below w0.heap.size w0 w) (hg : w0.heap.size ≤ g) {k : Nat} {x : Int × List (Int × Int)} (hk : L[k]? = some x) :
    PostsSee (w.setCell ⟨g, k * 2 + 1, none⟩ (.slice none 0 0)) (some ⟨g, 0, none⟩) n (L.set k (x.1, [])) where
  len := by rw [List.length_set]; exact hl
  fit := h63
  nil := fun e => by cases e
  at_ := fun ad e i y hy => by
    cases e
    have hkn := (List.getElem?_eq_some_iff.1 hk).1
    have hb2 : Below w0.heap.size w0 (w.setCell ⟨g, k * 2 + 1, none⟩ (.slice none 0 0)) := hb.setCell (p := ⟨g, k * 2 + 1, none⟩) hg _
    have ha : ∀ k, (⟨g, 0, none⟩ : Addr).add k = ⟨g, k, none⟩ := fun k => by
      unfold Addr.add
      split
      · rename_i h0; rw [h0]
      · simp
    have hin := (List.getElem?_eq_some_iff.1 hy).1
    rw [List.length_set] at hin
    obtain ⟨p, hp⟩ : ∃ p, R[i]? = some p := ⟨_, List.getElem?_eq_getElem (by omega)⟩
    have hc := fun j u (hj : (docCells p)[j]? = some u) => ho.cells (g := g) rfl (i * 2 + j) u (doc_at R i j p u hp hj)
    have c0 := hc 0 _ rfl
    have c1 := hc 1 _ rfl
    rw [ha] at c0 c1
    rw [ha, ha]
    by_cases hik : i = k
    · subst hik
      rw [List.getElem?_set_self hin] at hy
      cases hy
      obtain ⟨q1, q2, -⟩ := hr i p x hp hk
      refine ⟨q2, ?_, none, 0, ?_, Nat.le_refl _, PairsIn.nil0 _⟩
      · rw [World.cell?_setCell_other _ _ _ _ (fun e => by have := congrArg Addr.off e; simp only at this; omega), ← q1]; exact c0
      · exact World.cell?_setCell_same _ _ _ c1
    · rw [List.getElem?_set_ne (fun e => hik e.symm)] at hy
      obtain ⟨q1, q2, B, cc, q3, q4, q5⟩ := hr i p y hp hy
      refine ⟨q2, ?_, B, cc, ?_, q4, q5.below hb2⟩
      · rw [World.cell?_setCell_other _ _ _ _ (fun e => by have := congrArg Addr.off e; simp only at this; omega), ← q1]; exact c0
      · rw [World.cell?_setCell_other _ _ _ _ (fun e => by have := congrArg Addr.off e; simp only at this; omega), ← q3]; exact c1
end Go.Proofs.Ytmcoooepoikgjaa
