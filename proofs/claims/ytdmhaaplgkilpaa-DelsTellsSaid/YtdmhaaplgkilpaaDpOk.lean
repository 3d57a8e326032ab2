/- The landed dels keeps what the laws ask. -/
import Derived.Test.YtdmhaaplgkilpaaDpAdd
import Derived.Test.YtdmhaaplgkilpaaDpGet
namespace Go.Proofs.Ytdmhaaplgkilpaa
open Go.RowKit Go.Maps Go.WideMaps

def D0 : DelsSt := fun w F b s => (∃ l, IsB w b s.n l ∧ ∀ i, i < 64 → bitOf l i = (decide (i < s.n) && s.f i)) ∧ F = fun i => i = b
theorem has_raw {s : DSt} {l : List UInt8} (hn : s.n ≤ 64) (h : ∀ i, i < 64 → bitOf l i = (decide (i < s.n) && s.f i)) (i : Int) : dHas ⟨s.n, bitOf l⟩ i = dHas s i ∧ dCan ⟨s.n, bitOf l⟩ i = dCan s i := by
  unfold dHas dCan
  simp only
  by_cases hi : 0 ≤ i ∧ i < (s.n : Int)
  · rw [h i.toNat (by omega), decide_eq_true (show i.toNat < s.n by omega), Bool.true_and]
    exact ⟨rfl, rfl⟩
  · rw [decide_eq_false hi]
    exact ⟨rfl, rfl⟩
theorem add_raw {s : DSt} {l : List UInt8} (hl : l.length = 8) (hn : s.n ≤ 64) (h : ∀ i, i < 64 → bitOf l i = (decide (i < s.n) && s.f i)) (i : Int) : ∀ k, k < 64 → bitOf (addB s.n l i) k = (decide (k < (dAdd s i).n) && (dAdd s i).f k) := by
  intro k hk
  unfold addB
  rw [dAdd_n, (has_raw hn h i).2]
  unfold dAdd
  cases hc : dCan s i with
  | false =>
    rw [if_neg (by decide), if_neg (by decide)]
    exact h k hk
  | true =>
    rw [if_pos rfl, if_pos rfl]
    obtain ⟨I, rfl, hI, hf⟩ := can_iff hc
    rw [Int.toNat_natCast, setB_bit hl (by omega), h k hk]
    unfold dSet
    simp only
    by_cases he : k = I
    · subst he
      rw [decide_eq_true hI]
      simp
    · rw [decide_eq_false he, Bool.or_false, decide_eq_false (show ¬ (k : Int) = (I : Int) by omega), Bool.or_false]
theorem bel0 (w : World) : Below w.heap.size w w := Below.refl _ w
theorem delsOk : DelsOk D0 where
  keep := fun {w w' F b s} h hk _ => by
    obtain ⟨⟨l, h1, h2⟩, rfl⟩ := h
    exact ⟨⟨l, h1.of_block (hk b rfl), h2⟩, rfl⟩
  lt := fun {w F b s} h i hi => by
    obtain ⟨⟨l, h1, h2⟩, rfl⟩ := h
    obtain rfl : i = b := hi
    exact h1.blk.lt
  few := fun {w F b s} h => by
    obtain ⟨⟨l, h1, h2⟩, rfl⟩ := h
    exact h1.few
  same := fun {w F b s t} h hst => by
    obtain ⟨⟨l, h1, h2⟩, rfl⟩ := h
    refine ⟨⟨l, by rw [← hst.1]; exact h1, fun i hi => ?_⟩, rfl⟩
    rw [h2 i hi, ← hst.1]
    by_cases hin : i < s.n
    · rw [hst.2 i hin]
    · rw [decide_eq_false hin, Bool.false_and, Bool.false_and]
  new := fun w n hn => by
    by_cases h : 0 ≤ n ∧ n ≤ 64
    · obtain ⟨k, rfl⟩ := Int.eq_ofNat_of_zero_le h.1
      refine (dpNew_yes w k (by omega)).mono ?_
      rintro e w' ⟨rfl, h1, h2⟩
      refine ⟨h2, ?_⟩
      rw [if_pos h]
      exact ⟨_, _, rfl, ⟨⟨noB, h1, fun i hi => by rw [noB_bit]; unfold dNew; simp⟩, rfl⟩, fun i hi => by obtain rfl : i = w.heap.size := hi; exact Nat.le_refl _⟩
    · refine (dpNew_no w n h).mono ?_
      rintro e w' ⟨rfl, rfl⟩
      refine ⟨bel0 _, ?_⟩
      rw [if_neg h]
  get := fun w A n c x hx hc hn => by
    refine (dpGet_any w A n c x hx hc hn).mono ?_
    rintro e w' ⟨h1, h2⟩
    refine ⟨h1, ?_⟩
    cases hd : dGet x with
    | none =>
      rw [hd] at h2
      exact h2
    | some s =>
      rw [hd] at h2
      obtain ⟨b, rfl, hb, l, h3, h4⟩ := h2
      exact ⟨b, _, rfl, ⟨⟨l, h3, h4⟩, rfl⟩, fun i hi => by obtain rfl : i = b := hi; exact hb⟩
  size := fun {w F b s} h => by
    obtain ⟨⟨l, h1, h2⟩, rfl⟩ := h
    refine (dpSize_any h1).mono ?_
    rintro e w' ⟨rfl, rfl⟩
    exact ⟨rfl, 0, rfl⟩
  add := fun {w F b s} h i hi => by
    obtain ⟨⟨l, h1, h2⟩, rfl⟩ := h
    refine (dpAdd_any h1 i hi).mono ?_
    rintro e w' ⟨rfl, h3, h4⟩
    rw [(has_raw h1.few h2 i).2]
    exact ⟨rfl, _, ⟨⟨_, by rw [dAdd_n]; exact h3, add_raw h1.len h1.few h2 i⟩, rfl⟩, h4, fun i hi => .inl hi⟩
  has := fun {w F b s} h i hi => by
    obtain ⟨⟨l, h1, h2⟩, rfl⟩ := h
    refine (dpHas_any h1 i hi).mono ?_
    rintro e w' ⟨rfl, q, rfl⟩
    rw [(has_raw h1.few h2 i).1]
    exact ⟨rfl, q, rfl⟩
  many := fun {w F b s} h => by
    obtain ⟨⟨l, h1, h2⟩, rfl⟩ := h
    refine (dpMany_any h1).mono ?_
    rintro e w' ⟨rfl, rfl⟩
    rw [popTo_many h1.few h2 rfl]
    exact ⟨rfl, 0, rfl⟩
  live := fun {w F b s} h => by
    obtain ⟨⟨l, h1, h2⟩, rfl⟩ := h
    have hf := h1.few
    refine (dpLive_any h1).mono ?_
    rintro e w' ⟨A, c, rfl, h3, h4⟩
    rw [live_same hf h2] at h3 ⊢
    have hl := liveTo_le s.f s.n
    rw [liveTo_is] at hl
    refine ⟨A, c, rfl, IntsIn.own h3 (by unfold maxLen; omega) ?_, rowCap_le h3, h4⟩
    rw [← liveTo_is]
    exact liveTo_fits s.f hf
  put := fun {w F b s} h => by
    obtain ⟨⟨l, h1, h2⟩, rfl⟩ := h
    have h3 := dpPut_any h1
    rw [bits_same h1.len h1.few h2] at h3
    exact h3
end Go.Proofs.Ytdmhaaplgkilpaa
