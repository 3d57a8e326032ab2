/- Each token's postings are right postings: plain. -/
import Derived.Test.YtmnofmcfkchebaaMmMath
import Derived.Test.YtmnofmcfkchebaaPMath
namespace Go.Proofs.Ytmnofmcfkchebaa
set_option linter.unusedSimpArgs false

theorem rises_pw : ∀ {l : List Int} {p : Int}, rises p l = true ↔ (∀ y ∈ l, p < y) ∧ l.Pairwise (· < ·)
  | [], p => by simp [rises]
  | a :: r, p => by
    rw [rises, Bool.and_eq_true, rises_pw, decide_eq_true_iff, List.pairwise_cons]
    constructor
    · rintro ⟨h1, h2, h3⟩
      exact ⟨fun y hy => by
        rcases List.mem_cons.1 hy with rfl | hy
        · exact h1
        · have := h2 y hy; omega, h2, h3⟩
    · rintro ⟨h1, h2, h3⟩
      exact ⟨h1 a (List.mem_cons_self ..), h2, h3⟩
theorem mspots_rise {x : MDoc} (hx : DocOk x) (t : Int) : ∀ k, k ≤ x.T.length → (poss (spotUp x t k)).Pairwise (· < ·) ∧ (atss (spotUp x t k)).Pairwise (· < ·)
  | 0, _ => by simp [spotUp, poss, atss]
  | k + 1, h => by
    obtain ⟨h1, h2⟩ := mspots_rise hx t k (by omega)
    rw [spotUp]
    split
    · unfold poss at h1 ⊢
      unfold atss at h2 ⊢
      rw [List.map_append, List.map_append, List.pairwise_append, List.pairwise_append]
      refine ⟨⟨h1, by simp, fun a ha b hb => ?_⟩, h2, by simp, fun a ha b hb => ?_⟩
      · obtain ⟨s, hs, rfl⟩ := List.mem_map.1 ha
        obtain ⟨i, hi, -, rfl⟩ := spotUp_mem.1 hs
        simp at hb
        subst hb
        simp only
        omega
      · obtain ⟨s, hs, rfl⟩ := List.mem_map.1 ha
        obtain ⟨i, hi, -, rfl⟩ := spotUp_mem.1 hs
        simp at hb
        subst hb
        have := hx.up hi (by omega : k < x.T.length)
        simpa [List.getD_eq_getElem?_getD] using this
    · exact ⟨h1, h2⟩
theorem mposts_from {L : List MDoc} {t : Int} {p : Pst} : ∀ {k : Nat}, p ∈ postUp L t k → ∃ i, i < k ∧ p = ((mD L i).doc, mSpots (mD L i) t) ∧ 0 < (mSpots (mD L i) t).length
  | 0, h => by simp [postUp] at h
  | k + 1, h => by
    rw [postUp, List.mem_append] at h
    rcases h with h | h
    · obtain ⟨i, h1, h2⟩ := mposts_from h
      exact ⟨i, by omega, h2⟩
    · unfold postOne at h
      split at h
      · rename_i h0
        simp at h
        exact ⟨k, by omega, h, h0⟩
      · simp at h
theorem docs_rise {L : List MDoc} (hL : MWF L) (t : Int) : ∀ k, k ≤ L.length → ((postUp L t k).map (·.1)).Pairwise (· < ·)
  | 0, _ => by simp [postUp]
  | k + 1, h => by
    have ih := docs_rise hL t k (by omega)
    rw [postUp, List.map_append, List.pairwise_append]
    refine ⟨ih, ?_, fun a ha b hb => ?_⟩
    · unfold postOne
      split <;> simp
    · obtain ⟨p, hp, rfl⟩ := List.mem_map.1 ha
      obtain ⟨i, hi, rfl, -⟩ := mposts_from hp
      unfold postOne at hb
      split at hb
      · simp at hb
        subst hb
        exact hL.up i k hi (by omega)
      · simp at hb
theorem posts_valid {L : List MDoc} (hL : MWF L) (t : Int) : ValidP (mPosts L t) := by
  have hm : ∀ p ∈ mPosts L t, ∃ x, DocOk x ∧ p = (x.doc, mSpots x t) ∧ 0 < (mSpots x t).length := fun p hp => by
    obtain ⟨i, hi, h1, h2⟩ := mposts_from hp
    exact ⟨mD L i, hL.ok _ (mD_mem hi), h1, h2⟩
  have hs : ∀ x, DocOk x → ∀ s ∈ mSpots x t, 0 ≤ s.1 ∧ 0 ≤ s.2 ∧ s.1 ≤ 9223372036854775807 ∧ s.2 ≤ 9223372036854775807 := fun x hx s hs => by
    obtain ⟨i, hi, -, rfl⟩ := spotUp_mem.1 hs
    have h1 := (hx.tok hi).2
    have h2 := hx.few
    have h3 := hx.same
    have h4 : x.S.getD i 0 ≤ 9223372036854775807 := by
      refine hx.fit.2 _ ?_
      rw [List.getD_eq_getElem?_getD, List.getElem?_eq_getElem (by omega)]
      exact List.getElem_mem (by omega)
    exact ⟨by simp only; omega, h1, by simp only; omega, h4⟩
  have hd := docs_rise hL t L.length (Nat.le_refl _)
  refine ⟨?_, fun p hp => ?_, fun p hp => ?_, fun p hp => ?_, fun i hi => ?_, fun p hp => ?_, fun p hp => ?_, fun p hp s hs' => ?_⟩
  · have := postUp_len L t L.length
    have := hL.few
    unfold mPosts
    omega
  · obtain ⟨x, hx, rfl, -⟩ := hm p hp
    have h1 := spotUp_len x t x.T.length
    have h2 := hx.few
    unfold mSpots
    simp only
    omega
  · obtain ⟨x, hx, rfl, h⟩ := hm p hp
    exact h
  · obtain ⟨x, hx, rfl, -⟩ := hm p hp
    exact hx.doc
  · unfold lastD
    split
    · obtain ⟨x, hx, h, -⟩ := hm _ (pAt_mem hi)
      rw [h]
      have := hx.doc.1
      simp only
      omega
    · have h1 := List.pairwise_iff_getElem.1 hd (i - 1) i (by rw [List.length_map]; have : i < (postUp L t L.length).length := hi; omega) (by rw [List.length_map]; exact hi) (by omega)
      have e : ∀ j, (hj : j < (mPosts L t).length) → (pAt (mPosts L t) j).1 = ((postUp L t L.length).map (·.1))[j]'(by rw [List.length_map]; exact hj) := fun j hj => by
        unfold pAt
        rw [List.getD_eq_getElem?_getD, List.getElem?_eq_getElem hj, List.getElem_map]
        rfl
      rw [e (i - 1) (by omega), e i hi]
      exact h1
  · obtain ⟨x, hx, rfl, -⟩ := hm p hp
    refine rises_pw.2 ⟨fun y hy => ?_, (mspots_rise hx t _ (Nat.le_refl _)).1⟩
    obtain ⟨s, h1, rfl⟩ := List.mem_map.1 hy
    have := hs x hx s h1
    omega
  · obtain ⟨x, hx, rfl, -⟩ := hm p hp
    refine rises_pw.2 ⟨fun y hy => ?_, (mspots_rise hx t _ (Nat.le_refl _)).2⟩
    obtain ⟨s, h1, rfl⟩ := List.mem_map.1 hy
    have := hs x hx s h1
    omega
  · obtain ⟨x, hx, rfl, -⟩ := hm p hp
    have := hs x hx s hs'
    omega
theorem posts_check {L : List MDoc} (hL : MWF L) (t : Int) : checkP (mPosts L t) = 0 := (check_ok (posts_valid hL t).fit).2 (posts_valid hL t)
end Go.Proofs.Ytmnofmcfkchebaa
