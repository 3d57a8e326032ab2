/- Where Skips stand. -/
import Derived.Test.YthmjanhdjchdbaaCuLaw0
namespace Go.Proofs.Ythmjanhdjchdbaa

theorem skipN_spec (l : List Pst) (d : Int) : ∀ (f a : Nat), f = l.length - a → a ≤ l.length → (∀ i, a ≤ i → i < skipN l d f a → (pAt l i).1 < d) ∧ (skipN l d f a < l.length → d ≤ (pAt l (skipN l d f a)).1)
  | 0, a, hf, ha => by
    simp only [skipN]
    exact ⟨fun i h1 h2 => by omega, fun h => by omega⟩
  | f + 1, a, hf, ha => by
    simp only [skipN]
    split
    · rename_i hc
      obtain ⟨h1, h2⟩ := skipN_spec l d f (a + 1) (by omega) (by omega)
      refine ⟨fun i h3 h4 => ?_, h2⟩
      rcases Nat.eq_or_lt_of_le h3 with rfl | h5
      · exact hc.2
      · exact h1 i h5 h4
    · rename_i hc
      refine ⟨fun i h1 h2 => by omega, fun h => ?_⟩
      by_cases h3 : (pAt l a).1 < d
      · exact absurd ⟨h, h3⟩ hc
      · omega
/-- The first place from a on whose Doc is d or greater. -/
def firstN (l : List Pst) (d : Int) (a : Nat) : Nat := skipN l d (l.length - a) a
structure IsFirst (l : List Pst) (d : Int) (a p : Nat) : Prop where
  from_ : a ≤ p
  upto : p ≤ l.length
  less : ∀ i, a ≤ i → i < p → (pAt l i).1 < d
  here : p < l.length → d ≤ (pAt l p).1
theorem firstN_is {l : List Pst} {d : Int} {a : Nat} (ha : a ≤ l.length) : IsFirst l d a (firstN l d a) := by
  have h1 := skipN_le l d (l.length - a) a ha
  have h2 := skipN_spec l d (l.length - a) a rfl ha
  exact ⟨h1.1, h1.2, h2.1, h2.2⟩
theorem IsFirst.unique {l : List Pst} {d : Int} {a p q : Nat} (h : IsFirst l d a p) (k : IsFirst l d a q) : p = q := by
  rcases Nat.lt_trichotomy p q with h1 | h1 | h1
  · have h2 := k.less p h.from_ h1
    have h3 := h.here (by have := k.upto; omega)
    omega
  · exact h1
  · have h2 := h.less q k.from_ h1
    have h3 := k.here (by have := h.upto; omega)
    omega
theorem IsFirst.eq {l : List Pst} {d : Int} {a p : Nat} (h : IsFirst l d a p) (ha : a ≤ l.length) : firstN l d a = p := (firstN_is ha).unique h
theorem first_twice {l : List Pst} (hV : ValidP l) {a b : Int} {k : Nat} (hk : k ≤ l.length) : firstN l b (firstN l a k) = firstN l (max a b) k := by
  have h1 := firstN_is (d := a) hk
  have h2 := firstN_is (l := l) (d := b) h1.upto
  refine (IsFirst.eq ⟨by have := h1.from_; have := h2.from_; omega, h2.upto, fun i h3 h4 => ?_, fun h3 => ?_⟩ hk).symm
  · rcases Nat.lt_or_ge i (firstN l a k) with h5 | h5
    · have := h1.less i h3 h5; omega
    · have := h2.less i h5 h4; omega
  · have h4 := h2.here h3
    have h5 := h1.here (by have := h2.from_; omega)
    have h6 := docs_mono hV h2.from_ h3
    omega
theorem cSkip_at (s : CSt) (d : Int) : (cSkip s d).at_ = firstN s.l d s.at_ := by
  unfold cSkip
  rw [(cStand_l _).2]
  rfl
theorem cStand_idem (s : CSt) : cStand (cStand s) = cStand s := by
  by_cases h : s.at_ < s.l.length ∧ ((s.at_ / 4 : Nat) : Int) ≠ s.last
  · have h1 : cStand s = { s with read := s.read + 1, last := (s.at_ / 4 : Nat) } := by unfold cStand; rw [if_pos h]
    rw [h1]
    unfold cStand
    rw [if_neg (fun h2 => h2.2 rfl)]
  · have h1 : cStand s = s := by unfold cStand; rw [if_neg h]
    rw [h1, h1]
/-- What it tells hangs on where it stands alone. -/
theorem same_tell {s t : CSt} (hl : s.l = t.l) (ha : s.at_ = t.at_) : cIn s = cIn t ∧ cDoc s = cDoc t ∧ cSpots s = cSpots t := by
  unfold cIn cDoc cSpots
  rw [hl, ha]
  exact ⟨rfl, rfl, rfl⟩
theorem skip_still {s : CSt} (h : CWF s) (hs : cStand s = s) : cSkip s (cDoc s) = s := by
  have h1 : firstN s.l (cDoc s) s.at_ = s.at_ := by
    refine IsFirst.eq ⟨Nat.le_refl _, h.at_, fun i h1 h2 => by omega, fun h1 => ?_⟩ h.at_
    unfold cDoc
    rw [if_pos h1]
    exact Int.le_refl _
  unfold cSkip
  unfold firstN at h1
  rw [h1]
  exact hs
theorem cSkip_stands (s : CSt) (d : Int) : cStand (cSkip s d) = cSkip s d := cStand_idem _
theorem cNext_stands (s : CSt) : cStand (cNext s) = cNext s := cStand_idem _
theorem doc_fits {l : List Pst} (hV : ValidP l) {s : CSt} (h : s.l = l) : fits64 (cDoc s) := by
  unfold cDoc
  rw [h]
  split
  · rename_i h1
    have := hV.docs _ (pAt_mem h1)
    unfold fits64
    omega
  · unfold fits64; omega
theorem valid_of {x : List UInt8} {l : List Pst} (hg : getP x = (l, 0)) : ValidP l := by
  have h1 := getP_some (b := x) (by rw [hg])
  have h2 := getP_fit (b := x)
  rw [hg] at h1 h2
  exact (check_ok h2).1 h1.1
end Go.Proofs.Ythmjanhdjchdbaa
