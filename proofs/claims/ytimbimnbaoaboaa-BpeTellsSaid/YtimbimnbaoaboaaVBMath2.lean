/- What pairs build: of what shape. -/
import Derived.Test.YtimbimnbaoaboaaVBMath
namespace Go.Proofs.Ytimbimnbaoaboaa

theorem build_shape : ∀ (l : List (Int × Int)) (V : Voc), (buildV V l).2 = 0 → ∃ ts ms, (buildV V l).1 = ⟨V.tok ++ ts, V.mer ++ ms⟩ ∧ ts.length ≤ l.length ∧ ms.length = l.length ∧ ∀ (i : Nat) (p : Int × Int), l[i]? = some p → ∃ t, ms[i]? = some ⟨p.1, p.2, t⟩
  | [], V, _ => ⟨[], [], by simp [buildV], by simp, rfl, fun i p h => by simp at h⟩
  | p :: r, V, he => by
    simp only [buildV] at he ⊢
    split at he
    · rename_i h1; exact absurd he h1
    · rename_i h1
      rw [if_neg h1]
      obtain ⟨ts, ms, e1, h2, h3, h4⟩ := build_shape r _ he
      rw [e1]
      unfold pairAdd
      split
      · refine ⟨[bothT V p.1 p.2] ++ ts, [⟨p.1, p.2, (V.tok.length : Nat)⟩] ++ ms, by simp, by simp; omega, by simp; omega, fun i q hq => ?_⟩
        cases i with
        | zero => simp at hq; subst hq; exact ⟨_, rfl⟩
        | succ i => simp at hq; simpa using h4 i q hq
      · refine ⟨ts, [⟨p.1, p.2, findT V.tok (bothT V p.1 p.2)⟩] ++ ms, by simp, by simp; omega, by simp; omega, fun i q hq => ?_⟩
        cases i with
        | zero => simp at hq; subst hq; exact ⟨_, rfl⟩
        | succ i => simp at hq; simpa using h4 i q hq
theorem build_more_err (p : Int × Int) : ∀ (l : List (Int × Int)) (V : Voc), (buildV V l).2 ≠ 0 → buildV V (l ++ [p]) = buildV V l
  | [], V, h => absurd rfl h
  | q :: r, V, h => by
    rw [List.cons_append]
    by_cases hq : pairErr V q.1 q.2 ≠ 0
    · simp only [buildV, if_pos hq]
    · simp only [buildV, if_neg hq] at h ⊢
      exact build_more_err p r _ h
theorem build_more_ok (p : Int × Int) : ∀ (l : List (Int × Int)) (V : Voc), (buildV V l).2 = 0 → buildV V (l ++ [p]) = buildV (buildV V l).1 [p]
  | [], V, _ => rfl
  | q :: r, V, h => by
    rw [List.cons_append]
    by_cases hq : pairErr V q.1 q.2 ≠ 0
    · simp only [buildV, if_pos hq] at h
      exact absurd h hq
    · rw [buildV, if_neg hq]
      rw [buildV, if_neg hq] at h
      have e : buildV V (q :: r) = buildV (pairAdd V q.1 q.2) r := by rw [buildV, if_neg hq]
      rw [e]
      exact build_more_ok p r _ h
end Go.Proofs.Ytimbimnbaoaboaa
