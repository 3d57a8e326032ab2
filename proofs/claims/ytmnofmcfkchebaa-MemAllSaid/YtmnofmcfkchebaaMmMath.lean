/- Gathered postings in plain words: documents, all tokens, a token's postings; what is added, or the error. -/
import Derived.Test.YtmnofmcfkchebaaPPlain
namespace Go.Proofs.Ytmnofmcfkchebaa

/-- A document that was added: its number, its tokens, where each begins. -/
structure MDoc where
  doc : Int
  T : List Int
  S : List Int
def mD (L : List MDoc) (i : Nat) : MDoc := L.getD i ⟨0, [], []⟩
/-- Of the first places of a document those of a token. -/
def spotUp (x : MDoc) (t : Int) : Nat → List (Int × Int)
  | 0 => []
  | k + 1 => if x.T.getD k 0 = t then spotUp x t k ++ [((k : Int), x.S.getD k 0)] else spotUp x t k
def mSpots (x : MDoc) (t : Int) : List (Int × Int) := spotUp x t x.T.length
def postOne (x : MDoc) (t : Int) : List Pst := if 0 < (mSpots x t).length then [(x.doc, mSpots x t)] else []
def postUp (L : List MDoc) (t : Int) : Nat → List Pst
  | 0 => []
  | i + 1 => postUp L t i ++ postOne (mD L i) t
/-- A token's postings. -/
def mPosts (L : List MDoc) (t : Int) : List Pst := postUp L t L.length
/-- Rising numbers, with one more in its place. -/
def insI (n : Int) : List Int → List Int
  | [] => [n]
  | a :: r => if a < n then a :: insI n r else if a = n then a :: r else n :: a :: r
def termOne (a : List Int) (T : List Int) : List Int := T.foldl (fun a t => insI t a) a
/-- All tokens. -/
def mTerms (L : List MDoc) : List Int := L.foldl (fun a x => termOne a x.T) []
def badAt (x : MDoc) (i : Nat) : Bool := decide (x.T.getD i 0 < 0) || (decide (x.S.getD i 0 < 0) || (decide (0 < i) && decide (x.S.getD i 0 ≤ x.S.getD (i - 1) 0)))
def badTo (x : MDoc) : Nat → Bool
  | 0 => false
  | i + 1 => badTo x i || badAt x i
def lastM (L : List MDoc) : Int := if L.length = 0 then -1 else (mD L (L.length - 1)).doc
/-- The error of a document. -/
def mErr (L : List MDoc) (x : MDoc) : Int :=
  if 4096 ≤ L.length ∨ 4096 < x.T.length then 2
  else if x.doc < 0 ∨ 4294967296 < x.doc ∨ (0 < L.length ∧ x.doc ≤ (mD L (L.length - 1)).doc) ∨ x.T.length ≠ x.S.length then 1
  else if badTo x x.T.length = true then 1 else 0
def mAdd (L : List MDoc) (x : MDoc) : List MDoc := if mErr L x = 0 then L ++ [x] else L
/-- What has been added, so far. -/
def addUp (X : List MDoc) : Nat → List MDoc
  | 0 => []
  | i + 1 => mAdd (addUp X i) (mD X i)

/-- A document that may be. -/
structure DocOk (x : MDoc) : Prop where
  few : x.T.length ≤ 4096
  same : x.S.length = x.T.length
  doc : 0 ≤ x.doc ∧ x.doc ≤ 4294967296
  good : badTo x x.T.length = false
  fit : (∀ y ∈ x.T, y ≤ 9223372036854775807) ∧ ∀ y ∈ x.S, y ≤ 9223372036854775807
/-- What is always so. -/
structure MWF (L : List MDoc) : Prop where
  few : L.length ≤ 4096
  ok : ∀ x ∈ L, DocOk x
  up : ∀ i j, i < j → j < L.length → (mD L i).doc < (mD L j).doc
theorem mD_at {L : List MDoc} {i : Nat} {x : MDoc} (h : L[i]? = some x) : mD L i = x := by
  unfold mD
  rw [List.getD_eq_getElem?_getD, h]
  rfl
theorem mD_mem {L : List MDoc} {i : Nat} (h : i < L.length) : mD L i ∈ L := by
  rw [mD_at (List.getElem?_eq_getElem h)]
  exact List.getElem_mem h
theorem mD_left {L M : List MDoc} {i : Nat} (h : i < L.length) : mD (L ++ M) i = mD L i := by
  unfold mD
  rw [List.getD_eq_getElem?_getD, List.getD_eq_getElem?_getD, List.getElem?_append_left h]
theorem mD_last (L : List MDoc) (x : MDoc) : mD (L ++ [x]) L.length = x := by
  unfold mD
  rw [List.getD_eq_getElem?_getD, List.getElem?_append_right (Nat.le_refl _), Nat.sub_self]
  rfl
theorem MWF.nil : MWF [] := ⟨by simp, by simp, fun i j _ h => by simp at h⟩
theorem mErr_ok {L : List MDoc} {x : MDoc} (h : mErr L x = 0) : L.length < 4096 ∧ x.T.length ≤ 4096 ∧ (0 ≤ x.doc ∧ x.doc ≤ 4294967296) ∧ (0 < L.length → (mD L (L.length - 1)).doc < x.doc) ∧ x.S.length = x.T.length ∧ badTo x x.T.length = false := by
  unfold mErr at h
  split at h
  · cases h
  · rename_i h1
    split at h
    · cases h
    · rename_i h2
      split at h
      · cases h
      · rename_i h3
        refine ⟨by omega, by omega, by omega, fun h0 => by omega, by omega, by simpa using h3⟩
theorem MWF.add {L : List MDoc} (h : MWF L) {x : MDoc} (hf : (∀ y ∈ x.T, y ≤ 9223372036854775807) ∧ ∀ y ∈ x.S, y ≤ 9223372036854775807) : MWF (mAdd L x) := by
  unfold mAdd
  split
  · rename_i h0
    obtain ⟨h1, h2, h3, h4, h5, h6⟩ := mErr_ok h0
    refine ⟨by simp; omega, fun y hy => ?_, fun i j hij hj => ?_⟩
    · rcases List.mem_append.1 hy with hy | hy
      · exact h.ok y hy
      · rw [List.mem_singleton.1 hy]
        exact ⟨h2, h5, h3, h6, hf⟩
    · rw [List.length_append, List.length_singleton] at hj
      rcases Nat.lt_or_ge j L.length with hj2 | hj2
      · rw [mD_left (by omega), mD_left hj2]
        exact h.up i j hij hj2
      · obtain rfl : j = L.length := by omega
        rw [mD_last, mD_left hij]
        have h7 := h4 (by omega)
        rcases Nat.lt_or_ge i (L.length - 1) with hi | hi
        · have := h.up i (L.length - 1) hi (by omega); omega
        · rw [show i = L.length - 1 by omega]; exact h7
  · exact h
theorem badTo_iff {x : MDoc} {n : Nat} : badTo x n = false ↔ ∀ i, i < n → badAt x i = false := by
  induction n with
  | zero => simp [badTo]
  | succ n ih =>
    rw [badTo, Bool.or_eq_false_iff, ih]
    constructor
    · rintro ⟨h1, h2⟩ i hi
      rcases Nat.lt_or_ge i n with h | h
      · exact h1 i h
      · obtain rfl : i = n := by omega
        exact h2
    · exact fun h => ⟨fun i hi => h i (by omega), h n (by omega)⟩
theorem badAt_iff {x : MDoc} {i : Nat} : badAt x i = false ↔ 0 ≤ x.T.getD i 0 ∧ 0 ≤ x.S.getD i 0 ∧ (0 < i → x.S.getD (i - 1) 0 < x.S.getD i 0) := by
  unfold badAt
  simp only [Bool.or_eq_false_iff, decide_eq_false_iff_not, Bool.and_eq_false_iff]
  constructor
  · rintro ⟨h1, h2, h3⟩
    refine ⟨by omega, by omega, fun h => ?_⟩
    rcases h3 with h3 | h3
    · exact absurd h h3
    · omega
  · rintro ⟨h1, h2, h3⟩
    refine ⟨by omega, by omega, ?_⟩
    by_cases h : 0 < i
    · right; have := h3 h; omega
    · left; exact h
theorem DocOk.tok {x : MDoc} (h : DocOk x) {i : Nat} (hi : i < x.T.length) : 0 ≤ x.T.getD i 0 ∧ 0 ≤ x.S.getD i 0 := by
  have := badAt_iff.1 (badTo_iff.1 h.good i hi)
  exact ⟨this.1, this.2.1⟩
theorem DocOk.up {x : MDoc} (h : DocOk x) {i : Nat} : ∀ {j : Nat}, i < j → j < x.T.length → x.S.getD i 0 < x.S.getD j 0
  | 0, h1, _ => by omega
  | j + 1, h1, h2 => by
    have h3 := (badAt_iff.1 (badTo_iff.1 h.good (j + 1) h2)).2.2 (by omega)
    rw [Nat.add_sub_cancel] at h3
    rcases Nat.lt_or_ge i j with h4 | h4
    · have := h.up (i := i) (j := j) h4 (by omega); omega
    · obtain rfl : i = j := by omega
      exact h3

/-- What spots a token has in a document. -/
theorem spotUp_len (x : MDoc) (t : Int) : ∀ k, (spotUp x t k).length ≤ k
  | 0 => Nat.le_refl _
  | k + 1 => by
    have := spotUp_len x t k
    rw [spotUp]
    split
    · rw [List.length_append, List.length_singleton]; omega
    · omega
theorem spotUp_mem {x : MDoc} {t : Int} {s : Int × Int} : ∀ {k : Nat}, s ∈ spotUp x t k ↔ ∃ i, i < k ∧ x.T.getD i 0 = t ∧ s = ((i : Int), x.S.getD i 0)
  | 0 => by simp [spotUp]
  | k + 1 => by
    have ih := spotUp_mem (x := x) (t := t) (s := s) (k := k)
    rw [spotUp]
    split
    · rename_i h
      rw [List.mem_append, ih, List.mem_singleton]
      constructor
      · rintro (⟨i, h1, h2, h3⟩ | h1)
        · exact ⟨i, by omega, h2, h3⟩
        · exact ⟨k, by omega, h, h1⟩
      · rintro ⟨i, h1, h2, h3⟩
        rcases Nat.lt_or_ge i k with h4 | h4
        · exact .inl ⟨i, h4, h2, h3⟩
        · obtain rfl : i = k := by omega
          exact .inr h3
    · rename_i h
      rw [ih]
      constructor
      · rintro ⟨i, h1, h2, h3⟩
        exact ⟨i, by omega, h2, h3⟩
      · rintro ⟨i, h1, h2, h3⟩
        rcases Nat.lt_or_ge i k with h4 | h4
        · exact ⟨i, h4, h2, h3⟩
        · obtain rfl : i = k := by omega
          exact absurd h2 h
theorem insI_mem {n x : Int} : ∀ {l : List Int}, x ∈ insI n l ↔ x = n ∨ x ∈ l
  | [] => by simp [insI]
  | a :: r => by
    rw [insI]
    split
    · rw [List.mem_cons, insI_mem, List.mem_cons]
      constructor
      · rintro (h | h | h)
        · exact .inr (.inl h)
        · exact .inl h
        · exact .inr (.inr h)
      · rintro (h | h | h)
        · exact .inr (.inl h)
        · exact .inl h
        · exact .inr (.inr h)
    · split
      · rename_i h
        rw [h]
        simp
      · simp
theorem insI_up {n : Int} : ∀ {l : List Int}, l.Pairwise (· < ·) → (insI n l).Pairwise (· < ·)
  | [], _ => by simp [insI]
  | a :: r, h => by
    rw [List.pairwise_cons] at h
    rw [insI]
    split
    · rename_i h1
      rw [List.pairwise_cons]
      refine ⟨fun y hy => ?_, insI_up h.2⟩
      rcases insI_mem.1 hy with h2 | h2
      · rw [h2]; exact h1
      · exact h.1 y h2
    · split
      · exact List.pairwise_cons.2 h
      · rename_i h1 h2
        rw [List.pairwise_cons, List.pairwise_cons]
        refine ⟨fun y hy => ?_, h⟩
        rcases List.mem_cons.1 hy with rfl | h3
        · omega
        · have := h.1 y h3; omega
theorem insI_len (n : Int) : ∀ l : List Int, (insI n l).length ≤ l.length + 1
  | [] => by simp [insI]
  | a :: r => by
    have := insI_len n r
    rw [insI]
    split
    · simp only [List.length_cons]; omega
    · split
      · omega
      · simp
theorem termOne_mem {x : Int} : ∀ {T a : List Int}, x ∈ termOne a T ↔ x ∈ a ∨ x ∈ T
  | [], a => by simp [termOne]
  | t :: T, a => by
    have := termOne_mem (x := x) (T := T) (a := insI t a)
    unfold termOne at this ⊢
    rw [List.foldl_cons, this, insI_mem, List.mem_cons]
    constructor
    · rintro ((h | h) | h)
      · exact .inr (.inl h)
      · exact .inl h
      · exact .inr (.inr h)
    · rintro (h | h | h)
      · exact .inl (.inr h)
      · exact .inl (.inl h)
      · exact .inr h
theorem termOne_up : ∀ {T a : List Int}, a.Pairwise (· < ·) → (termOne a T).Pairwise (· < ·)
  | [], a, h => h
  | t :: T, a, h => by
    unfold termOne
    rw [List.foldl_cons]
    exact termOne_up (T := T) (insI_up h)
theorem termOne_len : ∀ (T a : List Int), (termOne a T).length ≤ a.length + T.length
  | [], a => by simp [termOne]
  | t :: T, a => by
    have h1 := termOne_len T (insI t a)
    have h2 := insI_len t a
    unfold termOne at h1 ⊢
    rw [List.foldl_cons, List.length_cons]
    omega
theorem termOne_append (T U a : List Int) : termOne a (T ++ U) = termOne (termOne a T) U := by unfold termOne; rw [List.foldl_append]
theorem terms_append (L : List MDoc) (x : MDoc) : mTerms (L ++ [x]) = termOne (mTerms L) x.T := by unfold mTerms; rw [List.foldl_append]; rfl
theorem terms_mem {x : Int} {L : List MDoc} : x ∈ mTerms L ↔ ∃ y ∈ L, x ∈ y.T := by
  have key : ∀ (L : List MDoc) (a : List Int), x ∈ L.foldl (fun a x => termOne a x.T) a ↔ x ∈ a ∨ ∃ y ∈ L, x ∈ y.T := by
    intro L
    induction L with
    | nil => intro a; simp
    | cons y L ih =>
      intro a
      rw [List.foldl_cons, ih, termOne_mem]
      constructor
      · rintro ((h | h) | ⟨z, h1, h2⟩)
        · exact .inl h
        · exact .inr ⟨y, List.mem_cons_self .., h⟩
        · exact .inr ⟨z, List.mem_cons_of_mem _ h1, h2⟩
      · rintro (h | ⟨z, h1, h2⟩)
        · exact .inl (.inl h)
        · rcases List.mem_cons.1 h1 with rfl | h3
          · exact .inl (.inr h2)
          · exact .inr ⟨z, h3, h2⟩
  have := key L []
  simpa [mTerms] using this
theorem terms_up (L : List MDoc) : (mTerms L).Pairwise (· < ·) := by
  have key : ∀ (L : List MDoc) (a : List Int), a.Pairwise (· < ·) → (L.foldl (fun a x => termOne a x.T) a).Pairwise (· < ·) := by
    intro L
    induction L with
    | nil => intro a h; exact h
    | cons y L ih => intro a h; rw [List.foldl_cons]; exact ih _ (termOne_up h)
  exact key L [] List.Pairwise.nil
/-- How many tokens there are in all. -/
def totT (L : List MDoc) : Nat := (L.map fun x => x.T.length).sum
theorem totT_append (L M : List MDoc) : totT (L ++ M) = totT L + totT M := by simp [totT]
theorem terms_len (L : List MDoc) : (mTerms L).length ≤ totT L := by
  have key : ∀ (L : List MDoc) (a : List Int), (L.foldl (fun a x => termOne a x.T) a).length ≤ a.length + totT L := by
    intro L
    induction L with
    | nil => intro a; simp [totT]
    | cons y L ih =>
      intro a
      have h1 := ih (termOne a y.T)
      have h2 := termOne_len y.T a
      have h3 : totT (y :: L) = y.T.length + totT L := by simp [totT]
      rw [List.foldl_cons]
      omega
  have := key L []
  simpa [mTerms] using this
/-- Two rising rows of the same numbers are one. -/
theorem up_unique : ∀ {l m : List Int}, l.Pairwise (· < ·) → m.Pairwise (· < ·) → (∀ x, x ∈ l ↔ x ∈ m) → l = m
  | [], [], _, _, _ => rfl
  | [], b :: m, _, _, h => by have := (h b).2 (List.mem_cons_self ..); simp at this
  | a :: l, [], _, _, h => by have := (h a).1 (List.mem_cons_self ..); simp at this
  | a :: l, b :: m, hl, hm, h => by
    rw [List.pairwise_cons] at hl hm
    have h1 := (h a).1 (List.mem_cons_self ..)
    have h2 := (h b).2 (List.mem_cons_self ..)
    have hab : a = b := by
      rcases List.mem_cons.1 h1 with h3 | h3
      · exact h3
      · rcases List.mem_cons.1 h2 with h4 | h4
        · exact h4.symm
        · have := hm.1 a h3; have := hl.1 b h4; omega
    subst hab
    rw [up_unique hl.2 hm.2 fun x => ?_]
    have hx := h x
    rw [List.mem_cons, List.mem_cons] at hx
    constructor
    · intro h3
      rcases hx.1 (.inr h3) with h4 | h4
      · have := hl.1 x h3; omega
      · exact h4
    · intro h3
      rcases hx.2 (.inr h3) with h4 | h4
      · have := hm.1 x h3; omega
      · exact h4
theorem addUp_wf {X : List MDoc} (h : ∀ x ∈ X, (∀ y ∈ x.T, y ≤ 9223372036854775807) ∧ ∀ y ∈ x.S, y ≤ 9223372036854775807) : ∀ i, i ≤ X.length → MWF (addUp X i)
  | 0, _ => MWF.nil
  | i + 1, hi => (addUp_wf h i (by omega)).add (h _ (mD_mem (by omega)))
theorem postUp_len (L : List MDoc) (t : Int) : ∀ i, (postUp L t i).length ≤ i
  | 0 => Nat.le_refl _
  | i + 1 => by
    have := postUp_len L t i
    rw [postUp, List.length_append]
    unfold postOne
    split
    · simp only [List.length_singleton]; omega
    · simp only [List.length_nil]; omega
end Go.Proofs.Ytmnofmcfkchebaa
