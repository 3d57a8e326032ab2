/- The documents that a law keeps of those that were added: a row of its own. -/
import Derived.Test.YtmnofmcfkchebaaMmTwin
namespace Go.Proofs.Ytmnofmcfkchebaa
open Go.RowKit Go.Maps Go.WideMaps
set_option linter.unusedSimpArgs false

theorem lawOneInfo : (Try.prog.info? 35).map (fun i => (i.zero, i.size, i.bytes)) = some (some (.agg #[.int .i64 0, .slice none 0 0, .slice none 0 0]), 3, 56) := by kernel_rfl
/-- One of them: its rows lie in what came in. -/
def OneIn (W : World) (p : Int × Value × Value) (x : MDoc) : Prop := p.1 = x.doc ∧ fits64 x.doc ∧ (∃ B c, p.2.1 = .slice B x.T.length c ∧ x.T.length ≤ c ∧ IntsIn W B x.T.length x.T) ∧ ∃ C c, p.2.2 = .slice C x.S.length c ∧ x.S.length ≤ c ∧ IntsIn W C x.S.length x.S
def AddedAt (W w : World) (v : Value) (L : List MDoc) : Prop := ∃ Q : List (Int × Value × Value), Q.length = L.length ∧ w.ownsRow W.heap.size 35 3 v L.length (Q.flatMap oneCells) ∧ ∀ (i : Nat) (p : Int × Value × Value) (x : MDoc), Q[i]? = some p → L[i]? = some x → OneIn W p x
theorem AddedAt.nil (W w : World) : AddedAt W w (.slice none 0 0) [] := ⟨[], rfl, World.ownsRow_nil _ _ _ _, fun i p x h _ => by simp at h⟩
theorem AddedAt.slice {W w : World} {v : Value} {L : List MDoc} (h : AddedAt W w v L) : ∃ A c, v = .slice A L.length c := by
  obtain ⟨Q, _, h1, _⟩ := h
  exact own_slice h1
theorem AddedAt.lt {W w : World} {v : Value} {L : List MDoc} (h : AddedAt W w v L) : ∀ g, v.ownBlock = some g → W.heap.size ≤ g ∧ g < w.heap.size := by
  obtain ⟨Q, _, h1, _⟩ := h
  exact h1.lt
theorem AddedAt.keep {W w w' : World} {v : Value} {L : List MDoc} (h : AddedAt W w v L) (hk : ∀ g, v.ownBlock = some g → w'.heap[g]? = w.heap[g]?) : AddedAt W w' v L := by
  obtain ⟨Q, h0, h1, h2⟩ := h
  exact ⟨Q, h0, ownsRow_block h1 hk, h2⟩
theorem AddedAt.below {W w w' : World} {v : Value} {L : List MDoc} (h : AddedAt W w v L) (hb : Below w.heap.size w w') : AddedAt W w' v L := h.keep fun g e => hb.block g (h.lt g e).2
/-- To read. -/
theorem AddedAt.see {W w : World} {A : Option Addr} {n c : Nat} {L : List MDoc} (h : AddedAt W w (.slice A n c) L) (hn : L.length = n) (h63 : n ≤ maxLen) (hb : Below W.heap.size W w) : OnesSee w A n L := by
  obtain ⟨Q, h0, h1, h2⟩ := h
  subst hn
  refine ⟨rfl, h63, fun e => ?_, fun ad e i x hx => ?_⟩
  · rcases h1.2 with ⟨_, h3⟩ | ⟨g, cap, cur, h3, _⟩
    · exact h3
    · rw [e] at h3; cases h3
  · have hi := (List.getElem?_eq_some_iff.1 hx).1
    have hp : Q[i]? = some (Q[i]'(by omega)) := List.getElem?_eq_getElem _
    obtain ⟨h5, h6, ⟨B, cB, h7, h8, h9⟩, C, cC, h10, h11, h12⟩ := h2 i _ x hp hx
    obtain ⟨g, hg⟩ : ∃ g, ad = ⟨g, 0, none⟩ := by
      rcases h1.2 with ⟨h3, _⟩ | ⟨g, cap, cur, h3, _⟩
      · rw [e] at h3; cases h3
      · rw [e] at h3
        injection h3 with h3
        injection h3 with h3
        exact ⟨g, h3⟩
    subst hg
    have hc := h1.cells (g := g) (by rw [e]; rfl)
    have hat : ∀ (j : Nat) (u : Value), (oneCells (Q[i]'(by omega)))[j]? = some u → w.cell? ((⟨g, 0, none⟩ : Addr).add (i * 3 + j)) = some u := fun j u hu => hc _ u (mones_at Q i j _ u hp hu)
    refine ⟨h6, ?_, ⟨B, cB, ?_, h8, h9.below hb⟩, C, cC, ?_, h11, h12.below hb⟩
    · have := hat 0 _ rfl
      rw [Nat.add_zero, h5] at this
      exact this
    · have := hat 1 _ rfl
      rw [h7] at this
      exact this
    · have := hat 2 _ rfl
      rw [h10] at this
      exact this
/-- One more. -/
theorem AddedAt.push {W w' : World} {v' : Value} {L : List MDoc} {x : MDoc} {p : Int × Value × Value} {Q : List (Int × Value × Value)} (h0 : Q.length = L.length) (h2 : ∀ (i : Nat) (p : Int × Value × Value) (x : MDoc), Q[i]? = some p → L[i]? = some x → OneIn W p x) (hp : OneIn W p x) (hw : w'.ownsRow W.heap.size 35 3 v' (L.length + 1) (Q.flatMap oneCells ++ oneCells p)) : AddedAt W w' v' (L ++ [x]) := by
  refine ⟨Q ++ [p], by simp [h0], by rw [List.length_append, List.length_singleton, List.flatMap_append]; simpa using hw, fun i q y e1 e2 => ?_⟩
  rcases Nat.lt_or_ge i Q.length with hi | hi
  · rw [List.getElem?_append_left hi] at e1
    rw [List.getElem?_append_left (by omega)] at e2
    exact h2 i q y e1 e2
  · rw [List.getElem?_append_right hi] at e1
    rw [List.getElem?_append_right (by omega)] at e2
    have hl := (List.getElem?_eq_some_iff.1 e1).1
    simp only [List.length_singleton] at hl
    rw [show i - Q.length = 0 by omega] at e1
    rw [show i - L.length = 0 by omega] at e2
    simp at e1 e2
    subst e1 e2
    exact hp
end Go.Proofs.Ytmnofmcfkchebaa
