/- A cursor over postings: where it stands, and what was read. -/
import Derived.Test.YthmjanhdjchdbaaPMath
namespace Go.Proofs.Ythmjanhdjchdbaa

structure CSt where
  l : List Pst
  at_ : Nat
  read : Nat
  last : Int
/-- The block that it stands in is read. -/
def cStand (s : CSt) : CSt := if s.at_ < s.l.length ∧ (s.at_ / 4 : Nat) ≠ s.last then { s with read := s.read + 1, last := (s.at_ / 4 : Nat) } else s
def cIn (s : CSt) : Bool := decide (s.at_ < s.l.length)
def cStart (l : List Pst) : CSt := cStand ⟨l, 0, 0, -1⟩
def cNext (s : CSt) : CSt := cStand (if s.at_ < s.l.length then { s with at_ := s.at_ + 1 } else s)
def skipN (l : List Pst) (d : Int) : Nat → Nat → Nat
  | 0, a => a
  | f + 1, a => if a < l.length ∧ (pAt l a).1 < d then skipN l d f (a + 1) else a
def cSkip (s : CSt) (d : Int) : CSt := cStand { s with at_ := skipN s.l d (s.l.length - s.at_) s.at_ }
def cDoc (s : CSt) : Int := if s.at_ < s.l.length then (pAt s.l s.at_).1 else 0
def cSpots (s : CSt) : List (Int × Int) := if s.at_ < s.l.length then (pAt s.l s.at_).2 else []

theorem cStand_l (s : CSt) : (cStand s).l = s.l ∧ (cStand s).at_ = s.at_ := by
  unfold cStand
  split <;> exact ⟨rfl, rfl⟩
theorem cIn_stand (s : CSt) : cIn (cStand s) = cIn s := by
  unfold cIn
  rw [(cStand_l s).1, (cStand_l s).2]
/-- What is always so. -/
structure CWF (s : CSt) : Prop where
  few : s.l.length ≤ 4096
  at_ : s.at_ ≤ s.l.length
  last : -1 ≤ s.last ∧ s.last ≤ (s.at_ / 4 : Nat)
  read : (s.read : Int) ≤ s.last + 1
  end_ : 4 * s.last < (s.l.length : Int)
  some : ∀ x ∈ s.l, 0 < x.2.length ∧ x.2.length ≤ 4096
theorem CWF.stand {s : CSt} (h : CWF s) : CWF (cStand s) := by
  have h1 := h.last
  have h2 := h.read
  unfold cStand
  split
  · rename_i hc
    refine ⟨h.few, h.at_, ⟨?_, ?_⟩, ?_, ?_, h.some⟩
    · simp only; omega
    · simp only; omega
    · simp only; push_cast; omega
    · simp only; have := hc.1; omega
  · exact h
theorem CWF.start {l : List Pst} (h : l.length ≤ 4096) (h1 : ∀ x ∈ l, 0 < x.2.length ∧ x.2.length ≤ 4096) : CWF (cStart l) := by
  unfold cStart
  exact CWF.stand ⟨h, Nat.zero_le _, ⟨by simp, by simp⟩, by simp, by simp only; omega, h1⟩
theorem CWF.move {s : CSt} (h : CWF s) {a : Nat} (h1 : s.at_ ≤ a) (h2 : a ≤ s.l.length) : CWF { s with at_ := a } := by
  have h3 := h.last
  refine ⟨h.few, h2, ⟨h3.1, ?_⟩, h.read, h.end_, h.some⟩
  simp only
  omega
theorem CWF.next {s : CSt} (h : CWF s) : CWF (cNext s) := by
  unfold cNext
  refine CWF.stand ?_
  split
  · exact h.move (Nat.le_succ _) (by omega)
  · exact h
theorem skipN_le (l : List Pst) (d : Int) : ∀ (f a : Nat), a ≤ l.length → a ≤ skipN l d f a ∧ skipN l d f a ≤ l.length
  | 0, a, h => ⟨Nat.le_refl _, h⟩
  | f + 1, a, h => by
    simp only [skipN]
    split
    · rename_i hc
      have := skipN_le l d f (a + 1) (by omega)
      omega
    · exact ⟨Nat.le_refl _, h⟩
theorem CWF.skip {s : CSt} (h : CWF s) (d : Int) : CWF (cSkip s d) := by
  unfold cSkip
  have := skipN_le s.l d (s.l.length - s.at_) s.at_ h.at_
  exact CWF.stand (h.move this.1 this.2)
end Go.Proofs.Ythmjanhdjchdbaa
