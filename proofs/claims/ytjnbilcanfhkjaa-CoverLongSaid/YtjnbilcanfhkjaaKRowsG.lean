/- Rows of bytes gathered in a variable of one's own. -/
import Derived.Test.YtjnbilcanfhkjaaKRows
import Derived.Lib.SmallJoins
namespace Go.Proofs.Ytjnbilcanfhkjaa
open Go.RowKit Go.Maps Go.WideMaps

/-- A row of slices of one's own, whose bytes lie in no older block than base. -/
def RowsG (w : World) (base : Nat) (v : Value) (L : List Nm) : Prop :=
  ∃ svs : List Value, w.ownsRow base 23 1 v L.length svs ∧ ∀ (i : Nat) (sv : Value) (x : Nm), svs[i]? = some sv → L[i]? = some x → ∃ A c, sv = .slice A x.length c ∧ x.length ≤ c ∧ BytesIn w A x.length x ∧ ∀ ad, A = some ad → 0 < x.length → base ≤ ad.block ∧ v.ownBlock ≠ some ad.block
theorem RowsG.nil (w : World) (base : Nat) : RowsG w base (.slice none 0 0) [] := ⟨[], ⟨rfl, .inl ⟨rfl, rfl⟩⟩, fun i sv x h _ => by simp at h⟩
theorem RowsG.rows {w : World} {base b : Nat} {v : Value} {L : List Nm} (h : RowsG w base v L) (hb : b ≤ base) : RowsAt w b v L := by
  obtain ⟨svs, h1, h2⟩ := h
  refine ⟨svs, Go.Joins.ownsRow_le h1 hb, fun i sv x e1 e2 => ?_⟩
  obtain ⟨A, c, h3, h4, h5, h6⟩ := h2 i sv x e1 e2
  exact ⟨A, c, h3, h4, h5, fun ad e h0 => (h6 ad e h0).2⟩
theorem RowsG.keep {w w' : World} {base : Nat} {v : Value} {L : List Nm} (h : RowsG w base v L) (hb : ∀ i, base ≤ i → i < w.heap.size → w'.heap[i]? = w.heap[i]?) (hs : w.heap.size ≤ w'.heap.size) : RowsG w' base v L := by
  obtain ⟨svs, h1, h2⟩ := h
  refine ⟨svs, ownsRow_block h1 fun g hg => hb g (h1.lt g hg).1 (h1.lt g hg).2, fun i sv x e1 e2 => ?_⟩
  obtain ⟨A, c, h3, h4, h5, h6⟩ := h2 i sv x e1 e2
  exact ⟨A, c, h3, h4, ⟨h5.1, h5.2.1.keep fun ad e hn => hb _ (h6 ad e hn).1 (h5.2.2 ad e hn), fun ad e hn => Nat.lt_of_lt_of_le (h5.2.2 ad e hn) hs⟩, h6⟩
theorem RowsG.below {w w' : World} {base : Nat} {v : Value} {L : List Nm} (h : RowsG w base v L) (hb : Below w.heap.size w w') : RowsG w' base v L := h.keep (fun i _ hi => hb.block i hi) hb.size
theorem RowsG.push {w w' : World} {base : Nat} {v v' sv : Value} {L : List Nm} {x : Nm} {svs : List Value}
    (h2 : ∀ (i : Nat) (sv : Value) (x : Nm), svs[i]? = some sv → L[i]? = some x → ∃ A c, sv = .slice A x.length c ∧ x.length ≤ c ∧ BytesIn w A x.length x ∧ ∀ ad, A = some ad → 0 < x.length → base ≤ ad.block ∧ v.ownBlock ≠ some ad.block)
    (hl : svs.length = L.length) (hs : Holds1 w sv x) (hap : ∀ A c ad, sv = .slice A x.length c → A = some ad → 0 < x.length → base ≤ ad.block ∧ v.ownBlock ≠ some ad.block)
    (ho : w'.ownsRow base 23 1 v' (L.length + 1) (svs ++ [sv])) (hg : w.grownBy w' v.ownBlock) (hloc : v'.ownBlock = v.ownBlock ∨ ∃ g, v'.ownBlock = some g ∧ w.heap.size ≤ g) : RowsG w' base v' (L ++ [x]) := by
  have keep : ∀ {A : Option Addr} {y : Nm}, BytesIn w A y.length y → (∀ ad, A = some ad → 0 < y.length → base ≤ ad.block ∧ v.ownBlock ≠ some ad.block) → BytesIn w' A y.length y ∧ ∀ ad, A = some ad → 0 < y.length → base ≤ ad.block ∧ v'.ownBlock ≠ some ad.block := by
    intro A y hb hn
    refine ⟨⟨hb.1, hb.2.1.keep fun ad e h0 => hg.block _ (hb.2.2 ad e h0) (fun e2 => (hn ad e h0).2 e2.symm), fun ad e h0 => Nat.lt_of_lt_of_le (hb.2.2 ad e h0) hg.size⟩, fun ad e h0 => ⟨(hn ad e h0).1, ?_⟩⟩
    rcases hloc with h | ⟨g, h, hge⟩
    · rw [h]; exact (hn ad e h0).2
    · rw [h]
      intro e2
      have h3 := hb.2.2 ad e h0
      have h4 : g = ad.block := Option.some.inj e2
      omega
  refine ⟨svs ++ [sv], by simpa using ho, fun i sv' y e1 e2 => ?_⟩
  rcases Nat.lt_or_ge i L.length with hi | hi
  · rw [List.getElem?_append_left (by omega)] at e1 e2
    obtain ⟨A, c, h3, h4, h5, h6⟩ := h2 i sv' y e1 e2
    obtain ⟨k1, k2⟩ := keep h5 h6
    exact ⟨A, c, h3, h4, k1, k2⟩
  · have hlt := (List.getElem?_eq_some_iff.1 e2).1
    simp at hlt
    obtain rfl : i = L.length := by omega
    rw [List.getElem?_append_right (by omega)] at e1 e2
    simp [hl] at e1 e2
    subst e1 e2
    obtain ⟨A, c, h3, h4, h5⟩ := hs
    obtain ⟨k1, k2⟩ := keep h5 fun ad e h0 => hap A c ad h3 e h0
    exact ⟨A, c, h3, h4, k1, k2⟩
end Go.Proofs.Ytjnbilcanfhkjaa
