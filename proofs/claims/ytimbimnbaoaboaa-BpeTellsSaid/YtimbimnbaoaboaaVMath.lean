/- Vocabularies: tokens and merges; when one is right. -/
namespace Go.Proofs.Ytimbimnbaoaboaa

structure Mg where
  a : Int
  b : Int
  t : Int
deriving DecidableEq
structure Voc where
  tok : List (List UInt8)
  mer : List Mg
/-- The first place of a token from place k on; none: -1. -/
def findFrom (s : List UInt8) : Nat → List (List UInt8) → Int
  | _, [] => -1
  | k, x :: r => if x = s then (k : Int) else findFrom s (k + 1) r
def findT (l : List (List UInt8)) (s : List UInt8) : Int := findFrom s 0 l
def mergedB (l : List Mg) (a b : Int) : Bool := l.any fun m => (m.a == a) && (m.b == b)
theorem findFrom_drop (l : List (List UInt8)) (s : List UInt8) (h : ∀ x ∈ l, x ≠ s) : ∀ k, findFrom s k l = -1 := by
  induction l with
  | nil => intro k; rfl
  | cons x r ih =>
    intro k
    simp only [findFrom]
    rw [if_neg (h x (List.mem_cons_self ..))]
    exact ih (fun y hy => h y (List.mem_cons_of_mem _ hy)) (k + 1)
theorem findFrom_at (l : List (List UInt8)) (s : List UInt8) : ∀ (k i : Nat), l[i]? = some s → (∀ j x, j < i → l[j]? = some x → x ≠ s) → findFrom s k l = ((k + i : Nat) : Int) := by
  induction l with
  | nil => intro k i h _; simp at h
  | cons x r ih =>
    intro k i h hn
    simp only [findFrom]
    cases i with
    | zero =>
      simp at h
      rw [if_pos h]
      rfl
    | succ i =>
      rw [if_neg (hn 0 x (by omega) rfl), ih (k + 1) i (by simpa using h) (fun j y hj hy => hn (j + 1) y (by omega) (by simpa using hy))]
      omega
theorem findT_none {l : List (List UInt8)} {s : List UInt8} (h : ∀ x ∈ l, x ≠ s) : findT l s = -1 := findFrom_drop l s h 0
theorem findT_at {l : List (List UInt8)} {s : List UInt8} {i : Nat} (h : l[i]? = some s) (hn : ∀ j x, j < i → l[j]? = some x → x ≠ s) : findT l s = (i : Int) := by
  have := findFrom_at l s 0 i h hn
  simpa [findT] using this
theorem findFrom_cases (l : List (List UInt8)) (s : List UInt8) : ∀ k, (findFrom s k l = -1 ∧ ∀ x ∈ l, x ≠ s) ∨ ∃ i : Nat, findFrom s k l = ((k + i : Nat) : Int) ∧ l[i]? = some s ∧ ∀ j x, j < i → l[j]? = some x → x ≠ s := by
  induction l with
  | nil => intro k; exact .inl ⟨rfl, by simp⟩
  | cons x r ih =>
    intro k
    by_cases hx : x = s
    · exact .inr ⟨0, by simp [findFrom, hx], by simp [hx], fun j y hj => by omega⟩
    · rcases ih (k + 1) with ⟨h1, h2⟩ | ⟨i, h1, h2, h3⟩
      · refine .inl ⟨by simp only [findFrom]; rw [if_neg hx]; exact h1, fun y hy => ?_⟩
        rcases List.mem_cons.1 hy with rfl | hy
        · exact hx
        · exact h2 y hy
      · refine .inr ⟨i + 1, ?_, by simpa using h2, fun j y hj hy => ?_⟩
        · simp only [findFrom]
          rw [if_neg hx, h1]
          omega
        · cases j with
          | zero => simp at hy; subst hy; exact hx
          | succ j => exact h3 j y (by omega) (by simpa using hy)
theorem findT_cases (l : List (List UInt8)) (s : List UInt8) : (findT l s = -1 ∧ ∀ x ∈ l, x ≠ s) ∨ ∃ i : Nat, findT l s = (i : Int) ∧ l[i]? = some s ∧ ∀ j x, j < i → l[j]? = some x → x ≠ s := by
  rcases findFrom_cases l s 0 with h | ⟨i, h1, h2, h3⟩
  · exact .inl h
  · exact .inr ⟨i, by simpa [findT] using h1, h2, h3⟩
theorem mergedB_take {l : List Mg} {k : Nat} {m : Mg} (h : l[k]? = some m) (a b : Int) : mergedB (l.take (k + 1)) a b = (mergedB (l.take k) a b || ((m.a == a) && (m.b == b))) := by
  unfold mergedB
  rw [List.take_add_one, h]
  simp [List.any_append]

/-- Is the token at place i right? -/
def tokOk (l : List (List UInt8)) (i : Nat) : Bool := decide (1 ≤ (l.getD i []).length) && (decide ((l.getD i []).length ≤ 16) && decide (findT l (l.getD i []) = (i : Int)))
/-- Is the merge at place i right? -/
def merOk (v : Voc) (i : Nat) : Bool :=
  let m := v.mer.getD i ⟨-1, -1, -1⟩
  decide (0 ≤ m.a ∧ m.a < v.tok.length ∧ 0 ≤ m.b ∧ m.b < v.tok.length ∧ 0 ≤ m.t ∧ m.t < v.tok.length) && (!(mergedB (v.mer.take i) m.a m.b) && decide (v.tok.getD m.t.toNat [] = v.tok.getD m.a.toNat [] ++ v.tok.getD m.b.toNat []))
/-- The error, or 0: right. -/
def checkV (v : Voc) : Int :=
  if 512 < v.tok.length ∨ 512 < v.mer.length then 2
  else if ¬ (List.range v.tok.length).all (tokOk v.tok) = true then 52
  else if ¬ (List.range 256).all (fun c => decide (0 ≤ findT v.tok [UInt8.ofNat c])) = true then 51
  else if ¬ (List.range v.mer.length).all (merOk v) = true then 53
  else 0
end Go.Proofs.Ytimbimnbaoaboaa
