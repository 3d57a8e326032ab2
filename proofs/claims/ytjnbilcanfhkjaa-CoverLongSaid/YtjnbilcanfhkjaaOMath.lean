/- Where a text may begin: in tokens, and in rows of tokens. -/
import Derived.Test.YtjnbilcanfhkjaaORef1
import Derived.Test.YtjnbilcanfhkjaaKTok
import Derived.Test.YtjnbilcanfhkjaaKTwos
namespace Go.Proofs.Ytjnbilcanfhkjaa
open Go.RowKit Go.Maps Go.WideMaps

/-- The shifts of a token, up to k, at which a text may begin, each with the token's number. -/
def alT (t s : Nm) (i : Int) : Nat → List (Int × Int)
  | 0 => []
  | k + 1 => if mayB t s k = true then alT t s i k ++ [(i, (k : Int))] else alT t s i k
def alUp (L : List Nm) (s : Nm) : Nat → List (Int × Int)
  | 0 => []
  | i + 1 => alUp L s i ++ alT (L.getD i []) s i (L.getD i []).length
/-- The bytes of the first tokens. -/
def totUp (L : List Nm) : Nat → Nat
  | 0 => 0
  | i + 1 => totUp L i + (L.getD i []).length
def chUp (L : List Nm) (s : Nm) (l : List Int) : Nat → List Int
  | 0 => []
  | k + 1 => chUp L s l k ++ (alT (tokI L (l.getD k 0)) s ((textUp L l k).length : Nat) (tokI L (l.getD k 0)).length).map fun p => p.1 + p.2
theorem alT_len (t s : Nm) (i : Int) (k : Nat) : (alT t s i k).length ≤ k := by
  induction k with
  | zero => simp [alT]
  | succ k ih =>
    simp only [alT]
    split
    · simp; omega
    · omega
theorem alUp_len (L : List Nm) (s : Nm) (i : Nat) : (alUp L s i).length ≤ totUp L i := by
  induction i with
  | zero => simp [alUp]
  | succ i ih =>
    have := alT_len (L.getD i []) s i (L.getD i []).length
    simp only [alUp, totUp, List.length_append]
    omega
theorem totUp_mono (L : List Nm) {a b : Nat} (h : a ≤ b) : totUp L a ≤ totUp L b := by
  induction b with
  | zero => obtain rfl : a = 0 := by omega
            exact Nat.le_refl _
  | succ b ih =>
    rcases Nat.lt_or_ge a (b + 1) with h1 | h1
    · have := ih (by omega)
      simp only [totUp]
      omega
    · obtain rfl : a = b + 1 := by omega
      exact Nat.le_refl _
theorem alT_mem {t s : Nm} {i : Int} {p : Int × Int} : ∀ {k : Nat}, p ∈ alT t s i k ↔ p.1 = i ∧ ∃ j : Nat, j < k ∧ p.2 = j ∧ mayB t s j = true
  | 0 => by simp [alT]
  | k + 1 => by
    have ih := alT_mem (t := t) (s := s) (i := i) (p := p) (k := k)
    simp only [alT]
    split
    · rename_i h
      rw [List.mem_append, ih, List.mem_singleton]
      constructor
      · rintro (⟨h1, j, h2, h3, h4⟩ | rfl)
        · exact ⟨h1, j, by omega, h3, h4⟩
        · exact ⟨rfl, k, by omega, rfl, h⟩
      · rintro ⟨h1, j, h2, h3, h4⟩
        rcases Nat.lt_or_ge j k with h5 | h5
        · exact .inl ⟨h1, j, h5, h3, h4⟩
        · obtain rfl : j = k := by omega
          exact .inr (Prod.ext h1 h3)
    · rename_i h
      rw [ih]
      constructor
      · rintro ⟨h1, j, h2, h3, h4⟩; exact ⟨h1, j, by omega, h3, h4⟩
      · rintro ⟨h1, j, h2, h3, h4⟩
        rcases Nat.lt_or_ge j k with h5 | h5
        · exact ⟨h1, j, h5, h3, h4⟩
        · obtain rfl : j = k := by omega
          exact absurd h4 h
theorem alUp_mem {L : List Nm} {s : Nm} {p : Int × Int} : ∀ {n : Nat}, p ∈ alUp L s n ↔ ∃ i j : Nat, i < n ∧ p.1 = i ∧ p.2 = j ∧ j < (L.getD i []).length ∧ mayB (L.getD i []) s j = true
  | 0 => by simp [alUp]
  | n + 1 => by
    simp only [alUp, List.mem_append]
    rw [alUp_mem, alT_mem]
    constructor
    · rintro (⟨i, j, h1, h2⟩ | ⟨h1, j, h2, h3, h4⟩)
      · exact ⟨i, j, by omega, h2⟩
      · exact ⟨n, j, by omega, h1, h3, h2, h4⟩
    · rintro ⟨i, j, h1, h2, h3, h4, h5⟩
      rcases Nat.lt_or_ge i n with h6 | h6
      · exact .inl ⟨i, j, h6, h2, h3, h4, h5⟩
      · obtain rfl : i = n := by omega
        exact .inr ⟨h2, j, h4, h3, h5⟩
end Go.Proofs.Ytjnbilcanfhkjaa
