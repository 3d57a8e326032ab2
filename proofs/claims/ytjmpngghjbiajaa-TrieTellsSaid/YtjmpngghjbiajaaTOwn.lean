/- Rows of bytes, each a row of one's own; and the same, behind changes of whatever bytes. -/
import Derived.Test.YtjmpngghjbiajaaTLMath
namespace Go.Proofs.Ytjmpngghjbiajaa
open Go.RowKit Go.Maps Go.WideMaps

def RowsO (w : World) (base : Nat) (v : Value) (L : List Nm) : Prop :=
  ∃ svs : List Value, w.ownsRow base 23 1 v L.length svs ∧ ∀ (i : Nat) (sv : Value) (x : Nm), svs[i]? = some sv → L[i]? = some x → w.ownsRow base 5 1 sv x.length (x.map byteV)
theorem RowsO.nil (w : World) (base : Nat) : RowsO w base (.slice none 0 0) [] := ⟨[], ⟨rfl, .inl ⟨rfl, rfl⟩⟩, fun i sv x h _ => by simp at h⟩
theorem rows_ne : (5 : TypeId) ≠ 23 := by decide
theorem RowsO.push {w w' : World} {base : Nat} {v v' sv : Value} {L : List Nm} {x : Nm} {svs : List Value} (ho : w.ownsRow base 23 1 v L.length svs)
    (h2 : ∀ (i : Nat) (sv : Value) (y : Nm), svs[i]? = some sv → L[i]? = some y → w.ownsRow base 5 1 sv y.length (y.map byteV)) (hs : w.ownsRow base 5 1 sv x.length (x.map byteV))
    (ho' : w'.ownsRow base 23 1 v' (L.length + 1) (svs ++ [sv])) (hg : w.grownBy w' v.ownBlock) : RowsO w' base v' (L ++ [x]) := by
  have keep : ∀ {sv : Value} {y : Nm}, w.ownsRow base 5 1 sv y.length (y.map byteV) → w'.ownsRow base 5 1 sv y.length (y.map byteV) := fun h =>
    ownsRow_block h fun g e => hg.block g (h.lt g e).2 fun e2 => own_row_ne h ho rows_ne g e e2.symm
  have hl : svs.length = L.length := by have := ho.1; simpa using this
  refine ⟨svs ++ [sv], by simpa using ho', fun i sv' y e1 e2 => ?_⟩
  rcases Nat.lt_or_ge i L.length with hi | hi
  · rw [List.getElem?_append_left (by omega)] at e1 e2
    exact keep (h2 i sv' y e1 e2)
  · have hlt := (List.getElem?_eq_some_iff.1 e2).1
    simp at hlt
    obtain rfl : i = L.length := by omega
    rw [List.getElem?_append_right (by omega)] at e1 e2
    simp [hl] at e1 e2
    subst e1 e2
    exact keep hs
theorem RowsO.see {w : World} {base : Nat} {A : Option Addr} {n c : Nat} {L : List Nm} (h : RowsO w base (.slice A n c) L) (h63 : L.length ≤ maxLen) (hx : ∀ x ∈ L, x.length ≤ maxLen) : RowsSee w A L.length L ∧ n = L.length := by
  obtain ⟨svs, h1, h2⟩ := h
  obtain ⟨A', c', e1, e2⟩ := own_cap h1
  injection e1 with ea en ec
  subst ea en ec
  refine ⟨⟨rfl, h63, fun i x hxi => ?_⟩, rfl⟩
  have hl : svs.length = L.length := by have := h1.1; simpa using this
  have hi := (List.getElem?_eq_some_iff.1 hxi).1
  have hs : svs[i]? = some (svs[i]'(by omega)) := List.getElem?_eq_getElem _
  have h3 := h2 i _ x hs hxi
  obtain ⟨B, cb, e4, e5⟩ := own_cap h3
  have hsrc := src_of_own h1
  cases hA : A with
  | none => have := hsrc.nil hA; omega
  | some ad =>
    have h6 := hsrc.cells ad hA i _ hs
    rw [e4] at h6 h3
    exact ⟨ad, B, cb, rfl, h6, e5, BytesIn.own h3 (hx x (List.mem_of_getElem? hxi))⟩

/-- A row of so many bytes, whatever they are now, in a block between these bounds. -/
def RowB (w : World) (lo hi n : Nat) (sv : Value) : Prop :=
  (sv = .slice none 0 0 ∧ n = 0) ∨ ∃ g cap cur, sv = .slice (some ⟨g, 0, none⟩) n cap ∧ lo ≤ g ∧ g < hi ∧ Blk w g 5 cur ∧ ∀ k, k < n → ∃ z : UInt8, cur[k]? = some (byteV z)
theorem RowB.own {w : World} {lo : Nat} {sv : Value} {x : Nm} (h : w.ownsRow lo 5 1 sv x.length (x.map byteV)) {hi : Nat} (hh : w.heap.size ≤ hi) : RowB w lo hi x.length sv := by
  have hlt := h.lt
  rcases h.2 with ⟨h1, h2⟩ | ⟨g, cap, cur, rfl, h1, h2, h3, h4, h5, h6⟩
  · exact .inl ⟨h1, h2⟩
  · refine .inr ⟨g, cap, cur, rfl, h1, Nat.lt_of_lt_of_le (hlt g rfl).2 hh, h2, fun k hk => ?_⟩
    have hx : x[k]? = some (x[k]'hk) := List.getElem?_eq_getElem _
    refine ⟨x[k]'hk, ?_⟩
    have h7 : (cur.toList.take (x.length * 1))[k]? = some (byteV (x[k]'hk)) := by rw [h6, List.getElem?_map, hx]; rfl
    rw [List.getElem?_take] at h7
    split at h7
    · simpa using h7
    · cases h7
theorem RowB.store {w : World} {lo hi n : Nat} {sv : Value} (h : RowB w lo hi n sv) (g k : Nat) (z : UInt8) : RowB (w.setCell ⟨g, k, none⟩ (byteV z)) lo hi n sv := by
  rcases h with h | ⟨g', cap, cur, e, h1, h2, h3, h4⟩
  · exact .inl h
  · refine .inr ?_
    by_cases hg : g' = g
    · subst hg
      refine ⟨g', cap, cur.setIfInBounds k (byteV z), e, h1, h2, h3.set_ k _, fun j hj => ?_⟩
      obtain ⟨y, hy⟩ := h4 j hj
      by_cases hjk : k = j
      · subst hjk
        exact ⟨z, by rw [Array.getElem?_setIfInBounds_self_of_lt (Array.getElem?_eq_some_iff.1 hy).1]⟩
      · exact ⟨y, by rw [Array.getElem?_setIfInBounds_ne hjk]; exact hy⟩
    · exact ⟨g', cap, cur, e, h1, h2, h3.far hg _, h4⟩
/-- While one's rows are changed: what came in lies as it lay; the trie does; the rows are still there. -/
structure Shed (p : Bool) (W : World) (lo hi b base : Nat) (v : Value) (svs : List Value) (L : List Nm) (w : World) : Prop where
  below : Below W.heap.size W w
  size : hi ≤ w.heap.size
  trie : p = true → TrieAt w b base L
  own : w.ownsRow lo 23 1 v L.length svs
  low : ∀ g, v.ownBlock = some g → g < hi
  rows : ∀ (i : Nat) (sv : Value) (x : Nm), svs[i]? = some sv → L[i]? = some x → RowB w lo hi x.length sv
theorem Shed.store {p : Bool} {W w : World} {lo hi b base : Nat} {v : Value} {svs : List Value} {L : List Nm} (h : Shed p W lo hi b base v svs L w) (hlo : W.heap.size ≤ lo) (hhi : hi ≤ base) {i g cap k : Nat} {x : Nm} (hs : svs[i]? = some (.slice (some ⟨g, 0, none⟩) x.length cap)) (hx : L[i]? = some x) (z : UInt8) :
    Shed p W lo hi b base v svs L (w.setCell ⟨g, k, none⟩ (byteV z)) := by
  have hr := h.rows i _ x hs hx
  obtain ⟨h1, h2, cur, hb⟩ : lo ≤ g ∧ g < hi ∧ ∃ cur, Blk w g 5 cur := by
    rcases hr with ⟨e, _⟩ | ⟨g', cap', cur, e, h1, h2, h3, _⟩
    · injection e with e; cases e
    · injection e with e
      injection e with e
      injection e with e
      subst e
      exact ⟨h1, h2, cur, h3⟩
  have hne : ∀ g', v.ownBlock = some g' → g' ≠ g := fun g' e e2 => own_blk_ne h.own hb (fun e3 => rows_ne e3.symm) (by rw [e, e2])
  refine ⟨h.below.setCell (p := ⟨g, k, none⟩) (Nat.le_trans hlo h1) _, by rw [size_setCell']; exact h.size, fun e => (h.trie e).keep (by rw [size_setCell']; exact Nat.le_refl _) fun j hj _ => heap_setCell_other w _ _ (by show j ≠ g; omega),
    ownsRow_block h.own fun g' e => heap_setCell_other w _ _ (hne g' e), h.low, fun j sv y e1 e2 => (h.rows j sv y e1 e2).store g k z⟩
end Go.Proofs.Ytjmpngghjbiajaa
