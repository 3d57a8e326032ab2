/- The program's cursor and the document's, side by side. -/
import Derived.Test.YthmjanhdjchdbaaCuPos
namespace Go.Proofs.Ythmjanhdjchdbaa
open Go.RowKit Go.Maps Go.WideMaps
set_option linter.unusedSimpArgs false

variable {K : World → (Nat → Prop) → Nat → CSt → Prop}
structure Both (K : World → (Nat → Prop) → Nat → CSt → Prop) (W w : World) (F : Nat → Prop) (b : Nat) (s : CSt) (lo d : Nat) (t : CSt) (l : List Pst) : Prop where
  one : Cur K W w F b s l
  two : R10At w lo d t
  low : lo ≤ d
  since : W.heap.size ≤ lo
  apart : ∀ i, F i → i < lo ∨ d < i
theorem Both.later (hK : CursorOk K) {W w w' : World} {F : Nat → Prop} {b lo d : Nat} {s t : CSt} {l : List Pst} (h : Both K W w F b s lo d t l) (hb : Below w.heap.size w w') : Both K W w' F b s lo d t l :=
  ⟨h.one.later hK hb, h.two.keep (fun i _ hi => hb.block i (by have := h.two.lt; omega)) h.low, h.low, h.since, h.apart⟩
theorem Both.turn {W w w' : World} {F F' : Nat → Prop} {b lo d : Nat} {s s' t : CSt} {l : List Pst} (h : Both K W w F b s lo d t l) (h1 : Cur K W w' F' b s' l) (hk : Kept F w w') (h2 : ∀ i, F' i → F i ∨ w.heap.size ≤ i) : Both K W w' F' b s' lo d t l :=
  ⟨h1, h.two.keep (fun i hi hi2 => hk.block i (by have := h.two.lt; omega) (fun hf => by have := h.apart i hf; omega)) h.low, h.low, h.since, fun i hf => by
    rcases h2 i hf with h3 | h3
    · exact h.apart i h3
    · have := h.two.lt; omega⟩
theorem Both.turn2 (hK : CursorOk K) {W w w' : World} {F : Nat → Prop} {b lo d : Nat} {s t t' : CSt} {l : List Pst} (h : Both K W w F b s lo d t l) (h1 : R10At w' lo d t') (hk : Kept (fun i => i = d) w w') : Both K W w' F b s lo d t' l :=
  ⟨⟨hK.far h.one.at_ hk (fun i hf hg => by have := h.apart i hf; have := h.low; omega), h.one.wf, h.one.same, h.one.new, below_kept h.one.below hk (fun i hi => by have := h.low; have := h.since; omega)⟩, h1, h.low, h.since, h.apart⟩
section
variable (hK : CursorOk K) {W w : World} {F : Nat → Prop} {b lo d : Nat} {s t : CSt} {l : List Pst} (h : Both K W w F b s lo d t l)
include hK h
theorem both_next : Calls Try.prog 19 #[.pointer (some ⟨b, 0, none⟩)] w fun e w' => e = .returned (.bool (cIn (cNext s))) ∧ ∃ F', Both K W w' F' b (cNext s) lo d t l := by
  refine (cur_next hK h.one).mono ?_
  rintro e w' ⟨rfl, F', h1, h2, h3⟩
  exact ⟨rfl, F', h.turn h1 h2 h3⟩
theorem both_skip (x : Int) (hx : fits64 x) : Calls Try.prog 21 #[.pointer (some ⟨b, 0, none⟩), .int .i64 x] w fun e w' => e = .returned (.bool (cIn (cSkip s x))) ∧ ∃ F', Both K W w' F' b (cSkip s x) lo d t l := by
  refine (cur_skip hK h.one x hx).mono ?_
  rintro e w' ⟨rfl, F', h1, h2, h3⟩
  exact ⟨rfl, F', h.turn h1 h2 h3⟩
theorem both_next2 : Calls Try.prog 20 #[.pointer (some ⟨d, 0, none⟩)] w fun e w' => e = .returned (.bool (cIn (cNext t))) ∧ Both K W w' F b s lo d (cNext t) l := by
  refine (r10Next_any h.two h.low).mono ?_
  rintro e w' ⟨rfl, h1, h2⟩
  exact ⟨rfl, h.turn2 hK h1 h2⟩
theorem both_skip2 (x : Int) : Calls Try.prog 22 #[.pointer (some ⟨d, 0, none⟩), .int .i64 x] w fun e w' => e = .returned (.bool (cIn (cSkip t x))) ∧ Both K W w' F b s lo d (cSkip t x) l := by
  refine (r10Skip_any h.two h.low x).mono ?_
  rintro e w' ⟨rfl, h1, h2⟩
  exact ⟨rfl, h.turn2 hK h1 h2⟩
end
theorem Both.made (hK : CursorOk K) {W w w' : World} {F : Nat → Prop} {b d : Nat} {s t : CSt} {l : List Pst} (h : Cur K W w F b s l) (hb : Below w.heap.size w w') (h2 : R10At w' w.heap.size d t) (hd : w.heap.size ≤ d) : Both K W w' F b s w.heap.size d t l :=
  ⟨h.later hK hb, h2, hd, h.below.size, fun i hf => .inl (hK.lt h.at_ i hf)⟩
theorem eqRefNil (w : World) (p : Option Addr) : (binOp .eql 32 (.pointer p) (.pointer none)).run Try.prog w = .ok (.bool p.isNone) w := by
  have h : ∀ d : Nat, (Op.equalIn (d + 1) 32 (.pointer p) (.pointer none)).run Try.prog w = .ok p.isNone w := fun d => by
    cases p <;> simp [Op.equalIn, run_underlying Try.underlying32]
  simp only [binOp]
  simp [Op.equal, Op.maxDepth, h 9999]
end Go.Proofs.Ythmjanhdjchdbaa
