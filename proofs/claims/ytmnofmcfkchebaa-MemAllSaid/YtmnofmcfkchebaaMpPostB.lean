/- Postings of one's own that grow: the last one's spots lie in a row of one's own. -/
import Derived.Test.YtmnofmcfkchebaaMpMap
import Derived.Test.YtmnofmcfkchebaaKOwn
namespace Go.Proofs.Ytmnofmcfkchebaa
open Go.RowKit Go.Maps Go.WideMaps
set_option linter.unusedSimpArgs false

theorem zero_add' (g k : Nat) : (⟨g, 0, none⟩ : Addr).add k = ⟨g, k, none⟩ := by
  unfold Addr.add
  split
  · rename_i h0; rw [h0]
  · simp
/-- One cell of a row of one's own is changed. -/
theorem own_setN {w : World} {base : Nat} {e : TypeId} {size : Nat} {pa : Addr} {n c m : Nat} {xs : List Value} (h : w.ownsRow base e size (.slice (some pa) n c) m xs) (k : Nat) (u : Value) : (w.setCell (pa.add k) u).ownsRow base e size (.slice (some pa) n c) m (xs.set k u) := by
  refine ⟨by rw [List.length_set]; exact h.1, ?_⟩
  rcases h.2 with ⟨h1, _⟩ | ⟨g, cap, cur, h1, hb, hblk, hnc, hcm, hcs, hx⟩
  · cases h1
  · simp only [Value.slice.injEq, Option.some.injEq] at h1
    obtain ⟨rfl, rfl, rfl⟩ := h1
    rw [zero_add']
    have hB : Blk w g e cur := hblk
    refine .inr ⟨g, _, cur.setIfInBounds k u, rfl, hb, hB.set_ k u, hnc, hcm, by simpa using hcs, ?_⟩
    rw [← hx, Array.toList_setIfInBounds, List.take_set]
theorem own_frozen {w : World} {base : Nat} {e : TypeId} {size : Nat} {pa : Addr} {n c m : Nat} {xs : List Value} (h : w.ownsRow base e size (.slice (some pa) n c) m xs) (k : Nat) : w.frozen? (pa.add k) = false := by
  rcases h.2 with ⟨h1, _⟩ | ⟨g, cap, cur, h1, hb, hblk, _⟩
  · cases h1
  · simp only [Value.slice.injEq, Option.some.injEq] at h1
    obtain ⟨rfl, rfl, rfl⟩ := h1
    rw [zero_add']
    exact Blk.frozen (t := e) (cs := cur) hblk k
theorem own_cellN {w : World} {base : Nat} {e : TypeId} {size : Nat} {pa : Addr} {n c m : Nat} {xs : List Value} (h : w.ownsRow base e size (.slice (some pa) n c) m xs) {k : Nat} {u : Value} (hk : xs[k]? = some u) : w.cell? (pa.add k) = some u := by
  have h2 := h
  rcases h.2 with ⟨h1, _⟩ | ⟨g, cap, cur, h1, hb, hblk, _⟩
  · cases h1
  · simp only [Value.slice.injEq, Option.some.injEq] at h1
    obtain ⟨rfl, rfl, rfl⟩ := h1
    exact h2.cells (g := g) rfl k u hk
theorem posts_spots_ne : (48 : TypeId) ≠ 46 := by decide
/-- Such postings: P, and the last, x, whose spots lie at vs. -/
structure PostB (w : World) (base : Nat) (v vs : Value) (P : List Pst) (x : Pst) : Prop where
  fit : fits64 x.1 ∧ ∀ s ∈ x.2, fits64 s.1 ∧ fits64 s.2
  spots : w.ownsRow base 48 2 vs x.2.length (x.2.flatMap twoCells)
  row : ∃ R : List (Int × Value), R.length = P.length ∧ w.ownsRow base 46 2 v (P.length + 1) (R.flatMap docCells ++ docCells (x.1, vs)) ∧
    ∀ (i : Nat) (p : Int × Value) (y : Pst), R[i]? = some p → P[i]? = some y → PostAt w y p fun i => base ≤ i ∧ v.ownBlock ≠ some i ∧ vs.ownBlock ≠ some i
section
variable {w w' : World} {base : Nat} {v vs v' vs' : Value} {P L : List Pst} {x : Pst}
theorem PostB.keep (h : PostB w base v vs P x) (hb : ∀ i, base ≤ i → i < w.heap.size → w'.heap[i]? = w.heap[i]?) (hs : w.heap.size ≤ w'.heap.size) : PostB w' base v vs P x := by
  obtain ⟨R, h1, h2, h3⟩ := h.row
  exact ⟨h.fit, ownsRow_block h.spots fun g hg => hb g (h.spots.lt g hg).1 (h.spots.lt g hg).2, R, h1, ownsRow_block h2 fun g hg => hb g (h2.lt g hg).1 (h2.lt g hg).2,
    fun i p y e1 e2 => (h3 i p y e1 e2).mono (fun j hj hf => ⟨hb j hf.1 hj, hf⟩) hs⟩
theorem PostB.below (h : PostB w base v vs P x) (hb : Below w.heap.size w w') : PostB w' base v vs P x := h.keep (fun i _ hi => hb.block i hi) hb.size
theorem PostB.apart (h : PostB w base v vs P x) : ∀ g, vs.ownBlock = some g → v.ownBlock ≠ some g := by
  obtain ⟨R, h1, h2, h3⟩ := h.row
  exact own_row_ne h.spots h2 posts_spots_ne
theorem PostB.posts (h : PostB w base v vs P x) (h63 : x.2.length ≤ maxLen) : PostsO w base v (P ++ [x]) := by
  have hap := h.apart
  obtain ⟨R, h1, h2, h3⟩ := h.row
  refine ⟨R ++ [(x.1, vs)], by simp [h1], by simpa using h2, fun i p y e1 e2 => ?_⟩
  rcases Nat.lt_or_ge i P.length with hi | hi
  · rw [List.getElem?_append_left (by omega)] at e1 e2
    exact (h3 i p y e1 e2).mono (fun j _ hf => ⟨rfl, hf.1, hf.2.1⟩) (Nat.le_refl _)
  · have hlt := (List.getElem?_eq_some_iff.1 e2).1
    simp at hlt
    obtain rfl : i = P.length := by omega
    rw [List.getElem?_append_right (by omega)] at e1 e2
    simp [h1] at e1 e2
    subst e1 e2
    have hsp := h.spots
    obtain ⟨A, c, rfl⟩ := own_slice hsp
    refine ⟨rfl, h.fit.1, A, c, rfl, rowCap_le hsp, PairsIn.ownTwo hsp rfl h63 h.fit.2, fun ad e _ => ?_⟩
    have := hsp.lt ad.block (by rw [e]; rfl)
    exact ⟨this.2, this.1, hap _ (by rw [e]; rfl)⟩
/-- A posting more, without a spot yet. -/
theorem PostB.of_push {R : List (Int × Value)} {d : Int} (hd : fits64 d) (h0 : R.length = L.length) (h2 : ∀ (i : Nat) (p : Int × Value) (x : Pst), R[i]? = some p → L[i]? = some x → PostAt w x p fun i => base ≤ i ∧ v.ownBlock ≠ some i)
    (ho : w'.ownsRow base 46 2 v' (L.length + 1) (R.flatMap docCells ++ docCells (d, .slice none 0 0))) (hg : w.grownBy w' v.ownBlock) (hloc : v'.ownBlock = v.ownBlock ∨ v'.ownBlock = some w.heap.size) : PostB w' base v' (.slice none 0 0) L (d, []) := by
  refine ⟨⟨hd, by simp⟩, ⟨rfl, .inl ⟨rfl, rfl⟩⟩, R, h0, ho, fun i q y e1 e2 => (h2 i q y e1 e2).mono (fun i hi hf => ⟨hg.block i hi (fun e => hf.2 e.symm), hf.1, ?_, by simp [Value.ownBlock]⟩) hg.size⟩
  rcases hloc with e | e
  · rw [e]; exact hf.2
  · rw [e]
    intro e2
    have := Option.some.inj e2
    omega
/-- Where the last posting lies. -/
theorem PostB.at (h : PostB w base v vs P x) : ∃ pa c, v = .slice (some pa) (P.length + 1) c ∧ w.cell? (pa.add (P.length * 2)) = some (.int .i64 x.1) ∧ w.cell? ⟨(pa.add (P.length * 2)).block, (pa.add (P.length * 2)).off + 1, none⟩ = some vs ∧ w.frozen? ⟨(pa.add (P.length * 2)).block, (pa.add (P.length * 2)).off + 1, none⟩ = false := by
  obtain ⟨R, h1, h2, h3⟩ := h.row
  obtain ⟨A, c, rfl⟩ := own_slice h2
  cases A with
  | none =>
    rcases h2.2 with ⟨_, h4⟩ | ⟨g, cap, cur, h4, _⟩
    · omega
    · cases h4
  | some pa =>
    have hl : (R.flatMap docCells).length = P.length * 2 := by rw [doc_len, h1]
    have c0 := own_cellN h2 (k := P.length * 2) (u := .int .i64 x.1) (by rw [List.getElem?_append_right (by omega), hl, Nat.sub_self]; rfl)
    have c1 := own_cellN h2 (k := P.length * 2 + 1) (u := vs) (by rw [List.getElem?_append_right (by omega), hl, Nat.add_sub_cancel_left]; rfl)
    have f1 := own_frozen h2 (P.length * 2 + 1)
    rw [add_pos' _ _ _ (by omega)] at c1 f1
    exact ⟨pa, c, rfl, c0, c1, f1⟩
/-- The last one has a spot more. -/
theorem PostB.spot {w1 : World} {pa : Addr} {n c : Nat} {s : Int × Int} (h : PostB w base (.slice (some pa) n c) vs P x) (hg : w.grownBy w1 vs.ownBlock) (ho : w1.ownsRow base 48 2 vs' (x.2.length + 1) (x.2.flatMap twoCells ++ twoCells s))
    (hl : vs'.ownBlock = vs.ownBlock ∨ vs'.ownBlock = some w.heap.size) (hs : fits64 s.1 ∧ fits64 s.2) :
    w1.cell? ⟨(pa.add (P.length * 2)).block, (pa.add (P.length * 2)).off + 1, none⟩ = some vs ∧ w1.frozen? ⟨(pa.add (P.length * 2)).block, (pa.add (P.length * 2)).off + 1, none⟩ = false ∧ base ≤ (pa.add (P.length * 2)).block ∧
    PostB (w1.setCell ⟨(pa.add (P.length * 2)).block, (pa.add (P.length * 2)).off + 1, none⟩ vs') base (.slice (some pa) n c) vs' P (x.1, x.2 ++ [s]) := by
  have hap := h.apart
  obtain ⟨R, h1, h2, h3⟩ := h.row
  have hpb : (pa.add (P.length * 2)).block = pa.block := by unfold Addr.add; split <;> rfl
  have hvb : (Value.slice (some pa) n c).ownBlock = some pa.block := rfl
  have hlt := h2.lt pa.block hvb
  have hl2 : (R.flatMap docCells).length = P.length * 2 := by rw [doc_len, h1]
  have hr1 : w1.ownsRow base 46 2 (.slice (some pa) n c) (P.length + 1) (R.flatMap docCells ++ docCells (x.1, vs)) := h2.kept hg (.inr (fun e => hap pa.block (by rw [← e, hvb]) hvb))
  have c1 := own_cellN hr1 (k := P.length * 2 + 1) (u := vs) (by rw [List.getElem?_append_right (by omega), hl2, Nat.add_sub_cancel_left]; rfl)
  have f1 := own_frozen hr1 (P.length * 2 + 1)
  have hs1 := own_setN hr1 (P.length * 2 + 1) vs'
  have hne : ∀ g, vs'.ownBlock = some g → g ≠ pa.block := fun g hgv e => by
    subst e
    exact own_row_ne ho hr1 posts_spots_ne pa.block hgv hvb
  have hset : (R.flatMap docCells ++ docCells (x.1, vs)).set (P.length * 2 + 1) vs' = R.flatMap docCells ++ docCells (x.1, vs') := by
    rw [List.set_append_right _ _ (by omega), hl2, Nat.add_sub_cancel_left]
    rfl
  rw [hset] at hs1
  rw [add_pos' _ _ _ (by omega)] at c1 f1 hs1
  refine ⟨c1, f1, by rw [hpb]; exact hlt.1, ⟨⟨h.fit.1, fun y hy => ?_⟩, ?_, R, h1, hs1, fun i p y e1 e2 => ?_⟩⟩
  · rcases List.mem_append.1 hy with hy | hy
    · exact h.fit.2 y hy
    · rw [List.mem_singleton.1 hy]; exact hs
  · rw [List.length_append, List.flatMap_append, List.flatMap_singleton]
    exact ownsRow_block ho fun g hgv => heap_setCell_other _ _ _ (by rw [hpb]; exact hne g hgv)
  · refine (h3 i p y e1 e2).mono (fun j hj hf => ⟨?_, hf.1, hf.2.1, ?_⟩) (by rw [size_setCell']; exact hg.size)
    · refine (heap_setCell_other _ _ _ ?_).trans (hg.block j hj (fun e => hf.2.2 e.symm))
      rw [hpb]
      intro e
      exact hf.2.1 (by rw [hvb, e])
    · rcases hl with e | e
      · rw [e]; exact hf.2.2
      · rw [e]
        intro e2
        have := Option.some.inj e2
        omega
end
end Go.Proofs.Ytmnofmcfkchebaa
