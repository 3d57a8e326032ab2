/- Rows of sets of a law's own; numbers that the document has made. -/
import Derived.Test.YtkligdaademakaaSeHead
import Derived.Test.YtkligdaademakaaSeMath2
import Derived.Test.YtkligdaademakaaSeRef3
import Derived.Test.YtkligdaademakaaLRef8
namespace Go.Proofs.Ytkligdaademakaa
open Go.RowKit Go.Maps Go.WideMaps

def ptr (x : SV) : Value := .pointer x.p
theorem ptr_one (X : List SV) : ∀ u ∈ X.map ptr, u.oneCell' = true := fun u hu => by
  obtain ⟨x, _, rfl⟩ := List.mem_map.1 hu
  rfl
theorem setInfo : (Try.prog.info? 28).map (fun i => (i.zero, i.size, i.bytes)) = some (some (.pointer none), 1, 8) := by kernel_rfl
/-- A row that nobody else writes in. -/
structure RowP (w : World) (base : Nat) (v : Value) (X : List SV) (G : Nat → Prop) (L : List SV) : Prop where
  own : w.ownsRow base 28 1 v X.length (X.map ptr)
  far : ∀ g, v.ownBlock = some g → ¬ G g ∧ ∀ x ∈ L, ¬ x.F g
theorem RowP.nil (w : World) (base : Nat) (G : Nat → Prop) (L : List SV) : RowP w base (.slice none 0 0) [] G L := ⟨⟨rfl, .inl ⟨rfl, rfl⟩⟩, fun g e => by cases e⟩
/-- What is new is none of its own. -/
theorem RowP.later {w w' : World} {base : Nat} {v : Value} {X L L' : List SV} {G G' : Nat → Prop} (h : RowP w base v X G L) (hb : ∀ g, v.ownBlock = some g → w'.heap[g]? = w.heap[g]?) (hG : ∀ b, G' b → G b ∨ w.heap.size ≤ b) (hL : ∀ x ∈ L', ∀ b, x.F b → (∃ y ∈ L, y.F b) ∨ w.heap.size ≤ b) : RowP w' base v X G' L' where
  own := ownsRow_block h.own hb
  far := fun g e => by
    have hlt := (h.own.lt g e).2
    refine ⟨fun hg => ?_, fun x hx hf => ?_⟩
    · rcases hG g hg with h1 | h1
      · exact (h.far g e).1 h1
      · omega
    · rcases hL x hx g hf with ⟨y, hy, h1⟩ | h1
      · exact (h.far g e).2 y hy h1
      · omega
section
variable {S : SetP} (hS : SetsOk S) {W w w2 : World} {G : Nat → Prop} {L X : List SV} {base : Nat} {v v' : Value} {o : Obj}
include hS
/-- One set more in a row. -/
theorem RowP.push (hr : RowP w base v X G L) (h : Pool S W w G L) {y : SV} (hown : w2.ownsRow base 28 1 v' (X.length + 1) (X.map ptr ++ [ptr y])) (hg : (w.alloc o).grownBy w2 v.ownBlock) (hloc : v'.ownBlock = v.ownBlock ∨ v'.ownBlock = some (w.alloc o).heap.size) :
    RowP w2 base v' (X ++ [y]) G L ∧ Pool S W w2 G L ∧ Kept (fun b => v.ownBlock = some b) w w2 ∧ (∀ g, v'.ownBlock = some g → v.ownBlock = some g ∨ w.heap.size ≤ g) := by
  have hk : Kept (fun b => v.ownBlock = some b) w w2 := ((Kept.refl _ w).alloc o).grown hg (fun k e => .inl e)
  refine ⟨⟨by simpa using hown, fun g e => ?_⟩, h.kept hS hk (fun b e => hr.far b e), hk, fun g e => ?_⟩
  · rcases hloc with h1 | h1
    · rw [h1] at e; exact hr.far g e
    · rw [h1] at e
      have := Option.some.inj e
      subst this
      refine ⟨fun hg => by have := h.lt _ hg; simp at this; omega, fun x hx hf => by have := hS.lt (h.each x hx) _ hf; simp at this; omega⟩
  · rcases hloc with h1 | h1
    · rw [h1] at e; exact .inl e
    · rw [h1] at e
      have := Option.some.inj e
      subst this
      exact .inr (by simp)
/-- Numbers that the document has made. -/
theorem Pool.gain (h : Pool S W w G L) {l : List Int} (hl : ∀ x ∈ l, -9223372036854775808 ≤ x ∧ x ≤ 9223372036854775807) (h63 : l.length ≤ maxLen) {e : Ending} {w' : World} (hn : NumsOut w l e w') :
    ∃ A c G', e = .returned (.slice A l.length c) ∧ l.length ≤ c ∧ Pool S W w' G' L ∧ Nums G' w' A l.length l ∧ Goes w w' G G' ∧ Below w.heap.size w w' ∧ ∀ b, G' b → G b ∨ w.heap.size ≤ b := by
  obtain ⟨u, rfl, ho, hb⟩ := hn
  obtain ⟨A, c, rfl, hc⟩ := own_cap ho
  have hi := IntsIn.own ho h63 hl
  refine ⟨A, c, fun b => G b ∨ (∃ ad, A = some ad ∧ b = ad.block), rfl, hc, (h.later hS hb).fix hS _ (fun b e => .inl e) (fun x hx b hxb => ?_) (fun b hb2 => ?_), ⟨hi, fun ad e _ => .inr ⟨ad, e, rfl⟩⟩, Goes.below hb (fun b e => .inl e), hb, fun b hb2 => ?_⟩
  · rintro (hg | ⟨ad, e, rfl⟩)
    · exact h.far x hx b hxb hg
    · have h1 := (ho.lt ad.block (by rw [e]; rfl)).1
      have := hS.lt (h.each x hx) _ hxb; omega
  · rcases hb2 with hb2 | ⟨ad, e, rfl⟩
    · exact Nat.lt_of_lt_of_le (h.lt b hb2) hb.size
    · exact (ho.lt ad.block (by rw [e]; rfl)).2
  · rcases hb2 with hb2 | ⟨ad, e, rfl⟩
    · exact .inl hb2
    · exact .inr (ho.lt ad.block (by rw [e]; rfl)).1
end
theorem nil_nums (G : Nat → Prop) (w : World) : Nums G w none 0 [] := ⟨⟨by unfold maxLen; omega, ⟨rfl, (fun ad e => by cases e), fun _ => rfl⟩, by simp, fun ad e => by cases e⟩, fun ad e => by cases e⟩
theorem list_mem {l : List Int} {x : Int} (h : x ∈ listI l) : x ∈ l := by
  have : ∀ k, k ≤ l.length → ∀ y ∈ (listUp l k).1, y ∈ l := by
    intro k
    induction k with
    | zero => intro _ y hy; cases hy
    | succ k ih =>
      intro hk y hy
      simp only [listUp] at hy
      split at hy
      · rcases List.mem_append.1 hy with h1 | h1
        · exact ih (by omega) y h1
        · rw [List.mem_singleton.1 h1, List.getD_eq_getElem?_getD, List.getElem?_eq_getElem (by omega)]
          exact List.getElem_mem _
      · exact ih (by omega) y hy
  exact this l.length (Nat.le_refl _) x h
theorem andL_snoc {L : List (List Int)} (h : L ≠ []) (x : List Int) : andL (L ++ [x]) = andI (andL L) x := by
  cases L with
  | nil => exact absurd rfl h
  | cons a r => simp [andL, List.foldl_append]
theorem orL_snoc (L : List (List Int)) (x : List Int) : orL (L ++ [x]) = orI (orL L) x := by simp [orL, List.foldl_append]
theorem orI_len (a b : List Int) : (orI a b).length ≤ a.length + b.length := by
  induction a, b using orI.induct with
  | case1 b => simp [orI]
  | case2 a r => simp [orI]
  | case3 a r b s h ih => rw [orI, if_pos h]; simp only [List.length_cons] at ih ⊢; omega
  | case4 a r b s h h2 ih => rw [orI, if_neg h, if_pos h2]; simp only [List.length_cons] at ih ⊢; omega
  | case5 a r b s h h2 ih => rw [orI, if_neg h, if_neg h2]; simp only [List.length_cons] at ih ⊢; omega
end Go.Proofs.Ytkligdaademakaa
