/- Each token's postings are right postings. -/
import Derived.Test.YtmnofmcfkchebaaMmLaw0
import Derived.Test.YtmnofmcfkchebaaMmValid
namespace Go.Proofs.Ytmnofmcfkchebaa
set_option linter.unusedSimpArgs false

/-- Each spot of a token's postings is a token's place in a document. -/
theorem spot_from {L : List MDoc} {t : Int} {p : Pst} {s : Int × Int} (hp : p ∈ mPosts L t) (hs : s ∈ p.2) : ∃ x ∈ L, x.doc = p.1 ∧ ∃ i, i < x.T.length ∧ x.T.getD i 0 = t ∧ s = ((i : Int), x.S.getD i 0) := by
  obtain ⟨i, hi, rfl, -⟩ := mposts_from hp
  obtain ⟨k, h1, h2, h3⟩ := spotUp_mem.1 hs
  exact ⟨mD L i, mD_mem hi, rfl, k, h1, h2, h3⟩
end Go.Proofs.Ytmnofmcfkchebaa
