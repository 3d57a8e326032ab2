import Derived.Test.YthcjikpabpgpfaaGreatZp0
import Derived.Test.YthcjikpabpgpfaaGreatZp1
import Derived.Test.YthcjikpabpgpfaaGreatZp3
import Derived.Deep.QuietTactic
import Derived.BigQuiet
import Derived.Laws.StructEq
set_option linter.unusedSimpArgs false
set_option maxHeartbeats 16000000
set_option maxRecDepth 100000
namespace Go.Proofs.YthcjikpabpgpfaaGreat
theorem pAt_eq {l : List Pst} {i : Nat} {x : Pst} (h : l[i]? = some x) : pAt l i = x := by
 unfold pAt
 rw [List.getD_eq_getElem?_getD, h]
 rfl
def spAt (s : List (Int × Int)) (k : Nat) : Bool := decide ((if k = 0 then -1 else (s.getD (k - 1) (0, 0)).1) < (s.getD k (0, 0)).1) && decide ((if k = 0 then -1 else (s.getD (k - 1) (0, 0)).2) < (s.getD k (0, 0)).2)
theorem rises_iff {l : List Int} {p : Int} : rises p l = true ↔ ∀ k, k < l.length → (if k = 0 then p else l.getD (k - 1) 0) < l.getD k 0 := by
 rw [rises_at]
 constructor
 ·intro h k hk
  have h1 := h k (l[k]'hk) (List.getElem?_eq_getElem hk)
  rw [List.getD_eq_getElem?_getD (l := l) (i := k), List.getElem?_eq_getElem hk]
  exact h1
 ·intro h k x hx
  have hk := (List.getElem?_eq_some_iff.1 hx).1
  have h1 := h k hk
  rw [List.getD_eq_getElem?_getD (l := l) (i := k), hx] at h1
  exact h1
theorem getD_poss (s : List (Int × Int)) (k : Nat) : (poss s).getD k 0 = (s.getD k (0, 0)).1 ∧ (atss s).getD k 0 = (s.getD k (0, 0)).2 := by
 unfold poss atss
 rw [List.getD_eq_getElem?_getD, List.getD_eq_getElem?_getD, List.getD_eq_getElem?_getD, List.getElem?_map, List.getElem?_map]
 cases s[k]? <;> exact ⟨rfl, rfl⟩
theorem spots_rise {s : List (Int × Int)} : (rises (-1) (poss s) && rises (-1) (atss s)) = true ↔ ∀ k, k < s.length → spAt s k = true := by
 rw [Bool.and_eq_true, rises_iff, rises_iff]
 have n1 := poss_len s
 constructor
 ·rintro ⟨h1, h2⟩ k hk
  have q1 := h1 k (by omega)
  have q2 := h2 k (by omega)
  rw [(getD_poss s k).1, (getD_poss s (k - 1)).1] at q1
  rw [(getD_poss s k).2, (getD_poss s (k - 1)).2] at q2
  unfold spAt
  rw [decide_eq_true q1, decide_eq_true q2]
  rfl
 ·intro h
  constructor
  ·intro k hk
   have h1 := h k (by omega)
   unfold spAt at h1
   rw [Bool.and_eq_true, decide_eq_true_eq, decide_eq_true_eq] at h1
   rw [(getD_poss s k).1, (getD_poss s (k - 1)).1]
   exact h1.1
  ·intro k hk
   have h1 := h k (by omega)
   unfold spAt at h1
   rw [Bool.and_eq_true, decide_eq_true_eq, decide_eq_true_eq] at h1
   rw [(getD_poss s k).2, (getD_poss s (k - 1)).2]
   exact h1.2
theorem check_many {l : List Pst} (h : 4096 < l.length) : checkP l = 2 := by unfold checkP; rw [if_pos h]
structure MDoc where
 doc : Int
 T : List Int
 S : List Int
def mD (L : List MDoc) (i : Nat) : MDoc := L.getD i ⟨0, [], []⟩
def spotUp (x : MDoc) (t : Int) : Nat → List (Int × Int)
 | 0 => []
 | k + 1 => if x.T.getD k 0 = t then spotUp x t k ++ [((k : Int), x.S.getD k 0)] else spotUp x t k
def mSpots (x : MDoc) (t : Int) : List (Int × Int) := spotUp x t x.T.length
def postOne (x : MDoc) (t : Int) : List Pst := if 0 < (mSpots x t).length then [(x.doc, mSpots x t)] else []
def postUp (L : List MDoc) (t : Int) : Nat → List Pst
 | 0 => []
 | i + 1 => postUp L t i ++ postOne (mD L i) t
def mPosts (L : List MDoc) (t : Int) : List Pst := postUp L t L.length
def insI (n : Int) : List Int → List Int
 | [] => [n]
 | a :: r => if a < n then a :: insI n r else if a = n then a :: r else n :: a :: r
def termOne (a : List Int) (T : List Int) : List Int := T.foldl (fun a t => insI t a) a
def mTerms (L : List MDoc) : List Int := L.foldl (fun a x => termOne a x.T) []
def badAt (x : MDoc) (i : Nat) : Bool := decide (x.T.getD i 0 < 0) || (decide (x.S.getD i 0 < 0) || (decide (0 < i) && decide (x.S.getD i 0 ≤ x.S.getD (i - 1) 0)))
def badTo (x : MDoc) : Nat → Bool
 | 0 => false
 | i + 1 => badTo x i || badAt x i
def lastM (L : List MDoc) : Int := if L.length = 0 then -1 else (mD L (L.length - 1)).doc
def mErr (L : List MDoc) (x : MDoc) : Int :=
 if 4096 ≤ L.length ∨ 4096 < x.T.length then 2
 else if x.doc < 0 ∨ 4294967296 < x.doc ∨ (0 < L.length ∧ x.doc ≤ (mD L (L.length - 1)).doc) ∨ x.T.length ≠ x.S.length then 1
 else if badTo x x.T.length = true then 1 else 0
def mAdd (L : List MDoc) (x : MDoc) : List MDoc := if mErr L x = 0 then L ++ [x] else L
def addUp (X : List MDoc) : Nat → List MDoc
 | 0 => []
 | i + 1 => mAdd (addUp X i) (mD X i)
structure DocOk (x : MDoc) : Prop where
 few : x.T.length ≤ 4096
 same : x.S.length = x.T.length
 doc : 0 ≤ x.doc ∧ x.doc ≤ 4294967296
 good : badTo x x.T.length = false
 fit : (∀ y ∈ x.T, y ≤ 9223372036854775807) ∧ ∀ y ∈ x.S, y ≤ 9223372036854775807
structure MWF (L : List MDoc) : Prop where
 few : L.length ≤ 4096
 ok : ∀ x ∈ L, DocOk x
 up : ∀ i j, i < j → j < L.length → (mD L i).doc < (mD L j).doc
theorem mD_at {L : List MDoc} {i : Nat} {x : MDoc} (h : L[i]? = some x) : mD L i = x := by
 unfold mD
 rw [List.getD_eq_getElem?_getD, h]
 rfl
theorem mD_mem {L : List MDoc} {i : Nat} (h : i < L.length) : mD L i ∈ L := by
 rw [mD_at (List.getElem?_eq_getElem h)]
 exact List.getElem_mem h
theorem mD_left {L M : List MDoc} {i : Nat} (h : i < L.length) : mD (L ++ M) i = mD L i := by
 unfold mD
 rw [List.getD_eq_getElem?_getD, List.getD_eq_getElem?_getD, List.getElem?_append_left h]
theorem mD_last (L : List MDoc) (x : MDoc) : mD (L ++ [x]) L.length = x := by
 unfold mD
 rw [List.getD_eq_getElem?_getD, List.getElem?_append_right (Nat.le_refl _), Nat.sub_self]
 rfl
theorem MWF.nil : MWF [] := ⟨by simp, by simp, fun i j _ h => by simp at h⟩
theorem mErr_ok {L : List MDoc} {x : MDoc} (h : mErr L x = 0) : L.length < 4096 ∧ x.T.length ≤ 4096 ∧ (0 ≤ x.doc ∧ x.doc ≤ 4294967296) ∧ (0 < L.length → (mD L (L.length - 1)).doc < x.doc) ∧ x.S.length = x.T.length ∧ badTo x x.T.length = false := by
 unfold mErr at h
 split at h
 ·cases h
 ·rename_i h1
  split at h
  ·cases h
  ·rename_i h2
   split at h
   ·cases h
   ·rename_i h3
    refine ⟨by omega, by omega, by omega, fun h0 => by omega, by omega, by simpa using h3⟩
theorem MWF.add {L : List MDoc} (h : MWF L) {x : MDoc} (hf : (∀ y ∈ x.T, y ≤ 9223372036854775807) ∧ ∀ y ∈ x.S, y ≤ 9223372036854775807) : MWF (mAdd L x) := by
 unfold mAdd
 split
 ·rename_i h0
  obtain ⟨h1, h2, h3, h4, h5, h6⟩ := mErr_ok h0
  refine ⟨by simp; omega, fun y hy => ?_, fun i j hij hj => ?_⟩
  ·rcases List.mem_append.1 hy with hy | hy
   ·exact h.ok y hy
   ·rw [List.mem_singleton.1 hy]
    exact ⟨h2, h5, h3, h6, hf⟩
  ·rw [List.length_append, List.length_singleton] at hj
   rcases Nat.lt_or_ge j L.length with hj2 | hj2
   ·rw [mD_left (by omega), mD_left hj2]
    exact h.up i j hij hj2
   ·obtain rfl : j = L.length := by omega
    rw [mD_last, mD_left hij]
    have h7 := h4 (by omega)
    rcases Nat.lt_or_ge i (L.length - 1) with hi | hi
    ·have := h.up i (L.length - 1) hi (by omega); omega
    ·rw [show i = L.length - 1 by omega]; exact h7
 ·exact h
theorem badTo_iff {x : MDoc} {n : Nat} : badTo x n = false ↔ ∀ i, i < n → badAt x i = false := by
 induction n with
 | zero => simp [badTo]
 | succ n ih =>
  rw [badTo, Bool.or_eq_false_iff, ih]
  constructor
  ·rintro ⟨h1, h2⟩ i hi
   rcases Nat.lt_or_ge i n with h | h
   ·exact h1 i h
   ·obtain rfl : i = n := by omega
    exact h2
  ·exact fun h => ⟨fun i hi => h i (by omega), h n (by omega)⟩
theorem badAt_iff {x : MDoc} {i : Nat} : badAt x i = false ↔ 0 ≤ x.T.getD i 0 ∧ 0 ≤ x.S.getD i 0 ∧ (0 < i → x.S.getD (i - 1) 0 < x.S.getD i 0) := by
 unfold badAt
 simp only [Bool.or_eq_false_iff, decide_eq_false_iff_not, Bool.and_eq_false_iff]
 constructor
 ·rintro ⟨h1, h2, h3⟩
  refine ⟨by omega, by omega, fun h => ?_⟩
  rcases h3 with h3 | h3
  ·exact absurd h h3
  ·omega
 ·rintro ⟨h1, h2, h3⟩
  refine ⟨by omega, by omega, ?_⟩
  by_cases h : 0 < i
  ·right; have := h3 h; omega
  ·left; exact h
theorem DocOk.tok {x : MDoc} (h : DocOk x) {i : Nat} (hi : i < x.T.length) : 0 ≤ x.T.getD i 0 ∧ 0 ≤ x.S.getD i 0 := by
 have := badAt_iff.1 (badTo_iff.1 h.good i hi)
 exact ⟨this.1, this.2.1⟩
theorem DocOk.up {x : MDoc} (h : DocOk x) {i : Nat} : ∀ {j : Nat}, i < j → j < x.T.length → x.S.getD i 0 < x.S.getD j 0
 | 0, h1, _ => by omega
 | j + 1, h1, h2 => by
  have h3 := (badAt_iff.1 (badTo_iff.1 h.good (j + 1) h2)).2.2 (by omega)
  rw [Nat.add_sub_cancel] at h3
  rcases Nat.lt_or_ge i j with h4 | h4
  ·have := h.up (i := i) (j := j) h4 (by omega); omega
  ·obtain rfl : i = j := by omega
   exact h3
theorem spotUp_len (x : MDoc) (t : Int) : ∀ k, (spotUp x t k).length ≤ k
 | 0 => Nat.le_refl _
 | k + 1 => by
  have := spotUp_len x t k
  rw [spotUp]
  split
  ·rw [List.length_append, List.length_singleton]; omega
  ·omega
theorem spotUp_mem {x : MDoc} {t : Int} {s : Int × Int} : ∀ {k : Nat}, s ∈ spotUp x t k ↔ ∃ i, i < k ∧ x.T.getD i 0 = t ∧ s = ((i : Int), x.S.getD i 0)
 | 0 => by simp [spotUp]
 | k + 1 => by
  have ih := spotUp_mem (x := x) (t := t) (s := s) (k := k)
  rw [spotUp]
  split
  ·rename_i h
   rw [List.mem_append, ih, List.mem_singleton]
   constructor
   ·rintro (⟨i, h1, h2, h3⟩ | h1)
    ·exact ⟨i, by omega, h2, h3⟩
    ·exact ⟨k, by omega, h, h1⟩
   ·rintro ⟨i, h1, h2, h3⟩
    rcases Nat.lt_or_ge i k with h4 | h4
    ·exact .inl ⟨i, h4, h2, h3⟩
    ·obtain rfl : i = k := by omega
     exact .inr h3
  ·rename_i h
   rw [ih]
   constructor
   ·rintro ⟨i, h1, h2, h3⟩
    exact ⟨i, by omega, h2, h3⟩
   ·rintro ⟨i, h1, h2, h3⟩
    rcases Nat.lt_or_ge i k with h4 | h4
    ·exact ⟨i, h4, h2, h3⟩
    ·obtain rfl : i = k := by omega
     exact absurd h2 h
theorem insI_mem {n x : Int} : ∀ {l : List Int}, x ∈ insI n l ↔ x = n ∨ x ∈ l
 | [] => by simp [insI]
 | a :: r => by
  rw [insI]
  split
  ·rw [List.mem_cons, insI_mem, List.mem_cons]
   constructor
   ·rintro (h | h | h)
    ·exact .inr (.inl h)
    ·exact .inl h
    ·exact .inr (.inr h)
   ·rintro (h | h | h)
    ·exact .inr (.inl h)
    ·exact .inl h
    ·exact .inr (.inr h)
  ·split
   ·rename_i h
    rw [h]
    simp
   ·simp
theorem insI_up {n : Int} : ∀ {l : List Int}, l.Pairwise (· < ·) → (insI n l).Pairwise (· < ·)
 | [], _ => by simp [insI]
 | a :: r, h => by
  rw [List.pairwise_cons] at h
  rw [insI]
  split
  ·rename_i h1
   rw [List.pairwise_cons]
   refine ⟨fun y hy => ?_, insI_up h.2⟩
   rcases insI_mem.1 hy with h2 | h2
   ·rw [h2]; exact h1
   ·exact h.1 y h2
  ·split
   ·exact List.pairwise_cons.2 h
   ·rename_i h1 h2
    rw [List.pairwise_cons, List.pairwise_cons]
    refine ⟨fun y hy => ?_, h⟩
    rcases List.mem_cons.1 hy with rfl | h3
    ·omega
    ·have := h.1 y h3; omega
theorem insI_len (n : Int) : ∀ l : List Int, (insI n l).length ≤ l.length + 1
 | [] => by simp [insI]
 | a :: r => by
  have := insI_len n r
  rw [insI]
  split
  ·simp only [List.length_cons]; omega
  ·split
   ·omega
   ·simp
theorem termOne_mem {x : Int} : ∀ {T a : List Int}, x ∈ termOne a T ↔ x ∈ a ∨ x ∈ T
 | [], a => by simp [termOne]
 | t :: T, a => by
  have := termOne_mem (x := x) (T := T) (a := insI t a)
  unfold termOne at this ⊢
  rw [List.foldl_cons, this, insI_mem, List.mem_cons]
  constructor
  ·rintro ((h | h) | h)
   ·exact .inr (.inl h)
   ·exact .inl h
   ·exact .inr (.inr h)
  ·rintro (h | h | h)
   ·exact .inl (.inr h)
   ·exact .inl (.inl h)
   ·exact .inr h
theorem termOne_up : ∀ {T a : List Int}, a.Pairwise (· < ·) → (termOne a T).Pairwise (· < ·)
 | [], a, h => h
 | t :: T, a, h => by
  unfold termOne
  rw [List.foldl_cons]
  exact termOne_up (T := T) (insI_up h)
theorem termOne_len : ∀ (T a : List Int), (termOne a T).length ≤ a.length + T.length
 | [], a => by simp [termOne]
 | t :: T, a => by
  have h1 := termOne_len T (insI t a)
  have h2 := insI_len t a
  unfold termOne at h1 ⊢
  rw [List.foldl_cons, List.length_cons]
  omega
theorem terms_mem {x : Int} {L : List MDoc} : x ∈ mTerms L ↔ ∃ y ∈ L, x ∈ y.T := by
 have key : ∀ (L : List MDoc) (a : List Int), x ∈ L.foldl (fun a x => termOne a x.T) a ↔ x ∈ a ∨ ∃ y ∈ L, x ∈ y.T := by
  intro L
  induction L with
  | nil => intro a; simp
  | cons y L ih =>
   intro a
   rw [List.foldl_cons, ih, termOne_mem]
   constructor
   ·rintro ((h | h) | ⟨z, h1, h2⟩)
    ·exact .inl h
    ·exact .inr ⟨y, List.mem_cons_self .., h⟩
    ·exact .inr ⟨z, List.mem_cons_of_mem _ h1, h2⟩
   ·rintro (h | ⟨z, h1, h2⟩)
    ·exact .inl (.inl h)
    ·rcases List.mem_cons.1 h1 with rfl | h3
     ·exact .inl (.inr h2)
     ·exact .inr ⟨z, h3, h2⟩
 have := key L []
 simpa [mTerms] using this
theorem terms_up (L : List MDoc) : (mTerms L).Pairwise (· < ·) := by
 have key : ∀ (L : List MDoc) (a : List Int), a.Pairwise (· < ·) → (L.foldl (fun a x => termOne a x.T) a).Pairwise (· < ·) := by
  intro L
  induction L with
  | nil => intro a h; exact h
  | cons y L ih => intro a h; rw [List.foldl_cons]; exact ih _ (termOne_up h)
 exact key L [] List.Pairwise.nil
def totT (L : List MDoc) : Nat := (L.map fun x => x.T.length).sum
theorem totT_append (L M : List MDoc) : totT (L ++ M) = totT L + totT M := by simp [totT]
theorem terms_len (L : List MDoc) : (mTerms L).length ≤ totT L := by
 have key : ∀ (L : List MDoc) (a : List Int), (L.foldl (fun a x => termOne a x.T) a).length ≤ a.length + totT L := by
  intro L
  induction L with
  | nil => intro a; simp [totT]
  | cons y L ih =>
   intro a
   have h1 := ih (termOne a y.T)
   have h2 := termOne_len y.T a
   have h3 : totT (y :: L) = y.T.length + totT L := by simp [totT]
   rw [List.foldl_cons]
   omega
 have := key L []
 simpa [mTerms] using this
theorem addUp_wf {X : List MDoc} (h : ∀ x ∈ X, (∀ y ∈ x.T, y ≤ 9223372036854775807) ∧ ∀ y ∈ x.S, y ≤ 9223372036854775807) : ∀ i, i ≤ X.length → MWF (addUp X i)
 | 0, _ => MWF.nil
 | i + 1, hi => (addUp_wf h i (by omega)).add (h _ (mD_mem (by omega)))
theorem postUp_len (L : List MDoc) (t : Int) : ∀ i, (postUp L t i).length ≤ i
 | 0 => Nat.le_refl _
 | i + 1 => by
  have := postUp_len L t i
  rw [postUp, List.length_append]
  unfold postOne
  split
  ·simp only [List.length_singleton]; omega
  ·simp only [List.length_nil]; omega
theorem rises_pw : ∀ {l : List Int} {p : Int}, rises p l = true ↔ (∀ y ∈ l, p < y) ∧ l.Pairwise (· < ·)
 | [], p => by simp [rises]
 | a :: r, p => by
  rw [rises, Bool.and_eq_true, rises_pw, decide_eq_true_iff, List.pairwise_cons]
  constructor
  ·rintro ⟨h1, h2, h3⟩
   exact ⟨fun y hy => by
    rcases List.mem_cons.1 hy with rfl | hy
    ·exact h1
    ·have := h2 y hy; omega, h2, h3⟩
  ·rintro ⟨h1, h2, h3⟩
   exact ⟨h1 a (List.mem_cons_self ..), h2, h3⟩
theorem mspots_rise {x : MDoc} (hx : DocOk x) (t : Int) : ∀ k, k ≤ x.T.length → (poss (spotUp x t k)).Pairwise (· < ·) ∧ (atss (spotUp x t k)).Pairwise (· < ·)
 | 0, _ => by simp [spotUp, poss, atss]
 | k + 1, h => by
  obtain ⟨h1, h2⟩ := mspots_rise hx t k (by omega)
  rw [spotUp]
  split
  ·unfold poss at h1 ⊢
   unfold atss at h2 ⊢
   rw [List.map_append, List.map_append, List.pairwise_append, List.pairwise_append]
   refine ⟨⟨h1, by simp, fun a ha b hb => ?_⟩, h2, by simp, fun a ha b hb => ?_⟩
   ·obtain ⟨s, hs, rfl⟩ := List.mem_map.1 ha
    obtain ⟨i, hi, -, rfl⟩ := spotUp_mem.1 hs
    simp at hb
    subst hb
    simp only
    omega
   ·obtain ⟨s, hs, rfl⟩ := List.mem_map.1 ha
    obtain ⟨i, hi, -, rfl⟩ := spotUp_mem.1 hs
    simp at hb
    subst hb
    have := hx.up hi (by omega : k < x.T.length)
    simpa [List.getD_eq_getElem?_getD] using this
  ·exact ⟨h1, h2⟩
theorem mposts_from {L : List MDoc} {t : Int} {p : Pst} : ∀ {k : Nat}, p ∈ postUp L t k → ∃ i, i < k ∧ p = ((mD L i).doc, mSpots (mD L i) t) ∧ 0 < (mSpots (mD L i) t).length
 | 0, h => by simp [postUp] at h
 | k + 1, h => by
  rw [postUp, List.mem_append] at h
  rcases h with h | h
  ·obtain ⟨i, h1, h2⟩ := mposts_from h
   exact ⟨i, by omega, h2⟩
  ·unfold postOne at h
   split at h
   ·rename_i h0
    simp at h
    exact ⟨k, by omega, h, h0⟩
   ·simp at h
theorem docs_rise {L : List MDoc} (hL : MWF L) (t : Int) : ∀ k, k ≤ L.length → ((postUp L t k).map (·.1)).Pairwise (· < ·)
 | 0, _ => by simp [postUp]
 | k + 1, h => by
  have ih := docs_rise hL t k (by omega)
  rw [postUp, List.map_append, List.pairwise_append]
  refine ⟨ih, ?_, fun a ha b hb => ?_⟩
  ·unfold postOne
   split <;> simp
  ·obtain ⟨p, hp, rfl⟩ := List.mem_map.1 ha
   obtain ⟨i, hi, rfl, -⟩ := mposts_from hp
   unfold postOne at hb
   split at hb
   ·simp at hb
    subst hb
    exact hL.up i k hi (by omega)
   ·simp at hb
theorem posts_valid {L : List MDoc} (hL : MWF L) (t : Int) : ValidP (mPosts L t) := by
 have hm : ∀ p ∈ mPosts L t, ∃ x, DocOk x ∧ p = (x.doc, mSpots x t) ∧ 0 < (mSpots x t).length := fun p hp => by
  obtain ⟨i, hi, h1, h2⟩ := mposts_from hp
  exact ⟨mD L i, hL.ok _ (mD_mem hi), h1, h2⟩
 have hs : ∀ x, DocOk x → ∀ s ∈ mSpots x t, 0 ≤ s.1 ∧ 0 ≤ s.2 ∧ s.1 ≤ 9223372036854775807 ∧ s.2 ≤ 9223372036854775807 := fun x hx s hs => by
  obtain ⟨i, hi, -, rfl⟩ := spotUp_mem.1 hs
  have h1 := (hx.tok hi).2
  have h2 := hx.few
  have h3 := hx.same
  have h4 : x.S.getD i 0 ≤ 9223372036854775807 := by
   refine hx.fit.2 _ ?_
   rw [List.getD_eq_getElem?_getD, List.getElem?_eq_getElem (by omega)]
   exact List.getElem_mem (by omega)
  exact ⟨by simp only; omega, h1, by simp only; omega, h4⟩
 have hd := docs_rise hL t L.length (Nat.le_refl _)
 refine ⟨?_, fun p hp => ?_, fun p hp => ?_, fun p hp => ?_, fun i hi => ?_, fun p hp => ?_, fun p hp => ?_, fun p hp s hs' => ?_⟩
 ·have := postUp_len L t L.length
  have := hL.few
  unfold mPosts
  omega
 ·obtain ⟨x, hx, rfl, -⟩ := hm p hp
  have h1 := spotUp_len x t x.T.length
  have h2 := hx.few
  unfold mSpots
  simp only
  omega
 ·obtain ⟨x, hx, rfl, h⟩ := hm p hp
  exact h
 ·obtain ⟨x, hx, rfl, -⟩ := hm p hp
  exact hx.doc
 ·unfold lastD
  split
  ·obtain ⟨x, hx, h, -⟩ := hm _ (pAt_mem hi)
   rw [h]
   have := hx.doc.1
   simp only
   omega
  ·have h1 := List.pairwise_iff_getElem.1 hd (i - 1) i (by rw [List.length_map]; have : i < (postUp L t L.length).length := hi; omega) (by rw [List.length_map]; exact hi) (by omega)
   have e : ∀ j, (hj : j < (mPosts L t).length) → (pAt (mPosts L t) j).1 = ((postUp L t L.length).map (·.1))[j]'(by rw [List.length_map]; exact hj) := fun j hj => by
    unfold pAt
    rw [List.getD_eq_getElem?_getD, List.getElem?_eq_getElem hj, List.getElem_map]
    rfl
   rw [e (i - 1) (by omega), e i hi]
   exact h1
 ·obtain ⟨x, hx, rfl, -⟩ := hm p hp
  refine rises_pw.2 ⟨fun y hy => ?_, (mspots_rise hx t _ (Nat.le_refl _)).1⟩
  obtain ⟨s, h1, rfl⟩ := List.mem_map.1 hy
  have := hs x hx s h1
  omega
 ·obtain ⟨x, hx, rfl, -⟩ := hm p hp
  refine rises_pw.2 ⟨fun y hy => ?_, (mspots_rise hx t _ (Nat.le_refl _)).2⟩
  obtain ⟨s, h1, rfl⟩ := List.mem_map.1 hy
  have := hs x hx s h1
  omega
 ·obtain ⟨x, hx, rfl, -⟩ := hm p hp
  have := hs x hx s hs'
  omega
theorem posts_check {L : List MDoc} (hL : MWF L) (t : Int) : checkP (mPosts L t) = 0 := (check_ok (posts_valid hL t).fit).2 (posts_valid hL t)
end Go.Proofs.YthcjikpabpgpfaaGreat
namespace Go.Proofs.YthcjikpabpgpfaaGreat
open Go.RowKit Go.Maps Go.WideMaps
def twoCells (p : Int × Int) : List Value := [.int .i64 p.1, .int .i64 p.2]
theorem two_len (l : List (Int × Int)) : (l.flatMap twoCells).length = l.length * 2 := by
 induction l with
 | nil => rfl
 | cons a r ih => rw [List.flatMap_cons, List.length_append, ih, List.length_cons]; simp [twoCells]; omega
theorem two_at : ∀ (l : List (Int × Int)) (i j : Nat) (p : Int × Int) (u : Value), l[i]? = some p → (twoCells p)[j]? = some u → (l.flatMap twoCells)[i * 2 + j]? = some u
 | [], i, j, p, u, h, _ => by simp at h
 | a :: r, 0, j, p, u, h, h2 => by
  simp at h
  subst h
  rw [List.flatMap_cons, List.getElem?_append_left (by have := (List.getElem?_eq_some_iff.1 h2).1; omega)]
  simpa using h2
 | a :: r, i + 1, j, p, u, h, h2 => by
  have hl : (twoCells a).length = 2 := rfl
  rw [List.flatMap_cons, List.getElem?_append_right (by omega), hl, show (i + 1) * 2 + j - 2 = i * 2 + j by omega]
  exact two_at r i j p u (by simpa using h) h2
theorem two_one (p : Int × Int) : ∀ u ∈ twoCells p, u.oneCell' = true := fun u hu => by
 simp [twoCells] at hu
 rcases hu with rfl | rfl <;> rfl
theorem two_new (w : World) (e : TypeId) (p : Int × Int) : ∀ (j : Nat) (u : Value), (twoCells p)[j]? = some u → (w.alloc (.cells #[.int .i64 p.1, .int .i64 p.2] e)).cell? ((⟨w.heap.size, 0, none⟩ : Addr).add j) = some u := by
 intro j u h
 have hB := Blk.new w e #[.int .i64 p.1, .int .i64 p.2]
 match j with
 | 0 =>
  simp [twoCells] at h
  subst h
  exact hB.cell 0
 | 1 =>
  simp [twoCells] at h
  subst h
  exact hB.cell 1
 | j + 2 => simp [twoCells] at h
theorem PairsIn.ownTwo {w : World} {base : Nat} {e : TypeId} {A : Option Addr} {n c : Nat} {l : List (Int × Int)} (h : w.ownsRow base e 2 (.slice A n c) n (l.flatMap twoCells)) (hl : l.length = n) (h63 : n ≤ maxLen) (hf : ∀ p ∈ l, fits64 p.1 ∧ fits64 p.2) : PairsIn w A n l where
 len := hl
 fit := h63
 vals := hf
 nil := fun e1 => by
  rcases h.2 with ⟨_, h0⟩ | ⟨g, cap, cur, h1, _⟩
  ·exact h0
  ·rw [e1] at h1; cases h1
 cells := fun ad e1 i p hp => by
  subst e1
  have hz : ad = ⟨ad.block, 0, none⟩ := by
   rcases h.2 with ⟨h1, _⟩ | ⟨g, cap, cur, h1, _⟩
   ·cases h1
   ·cases h1; rfl
  have hc := fun j u (hj : (twoCells p)[j]? = some u) => h.cells (g := ad.block) rfl (i * 2 + j) u (two_at l i j p u hp hj)
  have c0 := hc 0 _ rfl
  have c1 := hc 1 _ rfl
  have ha : ∀ k, (⟨ad.block, 0, none⟩ : Addr).add k = ⟨ad.block, k, none⟩ := fun k => by
   unfold Addr.add
   split
   ·rename_i h0; rw [h0]
   ·simp
  rw [ha] at c0 c1
  rw [hz, ha, ha]
  exact ⟨c0, c1⟩
theorem pairs_src {w : World} {ad : Addr} {n : Nat} {l : List (Int × Int)} (h : PairsIn w (some ad) n l) : ∀ (j : Nat) (u : Value), (l.flatMap twoCells)[j]? = some u → w.cell? (ad.add j) = some u := by
 have key : ∀ (R : List (Int × Int)) (j : Nat) (u : Value), (R.flatMap twoCells)[j]? = some u → ∃ i r p, j = i * 2 + r ∧ r < 2 ∧ R[i]? = some p ∧ (twoCells p)[r]? = some u := by
  intro R
  induction R with
  | nil => intro j u h; simp at h
  | cons a R ih =>
   intro j u h
   rw [List.flatMap_cons] at h
   have hl : (twoCells a).length = 2 := rfl
   rcases Nat.lt_or_ge j 2 with hj | hj
   ·rw [List.getElem?_append_left (by omega)] at h
    exact ⟨0, j, a, by omega, hj, rfl, h⟩
   ·rw [List.getElem?_append_right (by omega), hl] at h
    obtain ⟨i, r, p, h1, h2, h3, h4⟩ := ih (j - 2) u h
    exact ⟨i + 1, r, p, by omega, h2, by simpa using h3, h4⟩
 intro j u hu
 obtain ⟨i, r, p, rfl, hr, hp, hu2⟩ := key l j u hu
 obtain ⟨c0, c1⟩ := h.cells ad rfl i p hp
 match r, hr with
 | 0, _ => simp [twoCells] at hu2; subst hu2; exact c0
 | 1, _ => simp [twoCells] at hu2; subst hu2; exact c1
structure PostsSee (w : World) (A : Option Addr) (n : Nat) (l : List (Int × List (Int × Int))) : Prop where
 len : l.length = n
 fit : n ≤ maxLen
 nil : A = none → n = 0
 at_ : ∀ ad, A = some ad → ∀ (i : Nat) (x : Int × List (Int × Int)), l[i]? = some x → fits64 x.1 ∧ w.cell? (ad.add (i * 2)) = some (.int .i64 x.1) ∧ ∃ B c, w.cell? (ad.add (i * 2 + 1)) = some (.slice B x.2.length c) ∧ x.2.length ≤ c ∧ PairsIn w B x.2.length x.2
theorem PostsSee.below {w w' : World} {A : Option Addr} {n : Nat} {l : List (Int × List (Int × Int))} (h : PostsSee w A n l) (hb : Below w.heap.size w w') : PostsSee w' A n l where
 len := h.len
 fit := h.fit
 nil := h.nil
 at_ := fun ad e i x hx => by
  obtain ⟨h1, h2, B, c, h3, h4, h5⟩ := h.at_ ad e i x hx
  exact ⟨h1, below_cells hb h2, B, c, below_cells hb h3, h4, h5.below hb⟩
theorem PostsSee.at {w : World} {A : Option Addr} {n : Nat} {l : List (Int × List (Int × Int))} (h : PostsSee w A n l) (k : Nat) (hk : k < n) :
  ∃ ad x B c, A = some ad ∧ l[k]? = some x ∧ fits64 x.1 ∧ w.cell? (ad.add (k * 2)) = some (.int .i64 x.1) ∧ w.cell? ⟨(ad.add (k * 2)).block, (ad.add (k * 2)).off + 1, none⟩ = some (.slice B x.2.length c) ∧ x.2.length ≤ c ∧ PairsIn w B x.2.length x.2 := by
 have hl := h.len
 cases hA : A with
 | none => have := h.nil hA; omega
 | some ad =>
  subst hA
  have hx : l[k]? = some (l[k]'(by omega)) := List.getElem?_eq_getElem _
  obtain ⟨h1, h2, B, c, h3, h4, h5⟩ := h.at_ ad rfl k _ hx
  rw [add_pos' _ _ _ (by omega)] at h3
  exact ⟨ad, _, B, c, rfl, hx, h1, h2, h3, h4, h5⟩
def docCells (p : Int × Value) : List Value := [.int .i64 p.1, p.2]
theorem doc_len (l : List (Int × Value)) : (l.flatMap docCells).length = l.length * 2 := by
 induction l with
 | nil => rfl
 | cons a r ih => rw [List.flatMap_cons, List.length_append, ih, List.length_cons]; simp [docCells]; omega
theorem doc_at : ∀ (l : List (Int × Value)) (i j : Nat) (p : Int × Value) (u : Value), l[i]? = some p → (docCells p)[j]? = some u → (l.flatMap docCells)[i * 2 + j]? = some u
 | [], i, j, p, u, h, _ => by simp at h
 | a :: r, 0, j, p, u, h, h2 => by
  simp at h
  subst h
  rw [List.flatMap_cons, List.getElem?_append_left (by have := (List.getElem?_eq_some_iff.1 h2).1; omega)]
  simpa using h2
 | a :: r, i + 1, j, p, u, h, h2 => by
  have hl : (docCells a).length = 2 := rfl
  rw [List.flatMap_cons, List.getElem?_append_right (by omega), hl, show (i + 1) * 2 + j - 2 = i * 2 + j by omega]
  exact doc_at r i j p u (by simpa using h) h2
theorem doc_one (d : Int) (A : Option Addr) (n c : Nat) : ∀ u ∈ docCells (d, .slice A n c), u.oneCell' = true := fun u hu => by
 simp [docCells] at hu
 rcases hu with rfl | rfl <;> rfl
theorem doc_src {w : World} {g : Nat} {e : TypeId} {p : Int × Value} (h : Blk w g e #[.int .i64 p.1, p.2]) : ∀ (j : Nat) (u : Value), (docCells p)[j]? = some u → w.cell? ((⟨g, 0, none⟩ : Addr).add j) = some u := by
 intro j u hu
 match j with
 | 0 =>
  simp [docCells] at hu
  subst hu
  exact h.cell 0
 | 1 =>
  simp [docCells] at hu
  subst hu
  exact h.cell 1
 | j + 2 => simp [docCells] at hu
def PostAt (w : World) (x : Int × List (Int × Int)) (p : Int × Value) (far : Nat → Prop) : Prop :=
 p.1 = x.1 ∧ fits64 x.1 ∧ ∃ A c, p.2 = .slice A x.2.length c ∧ x.2.length ≤ c ∧ PairsIn w A x.2.length x.2 ∧ ∀ ad, A = some ad → 0 < x.2.length → ad.block < w.heap.size ∧ far ad.block
theorem PostAt.mono {w w' : World} {x : Int × List (Int × Int)} {p : Int × Value} {f g : Nat → Prop} (h : PostAt w x p f) (hk : ∀ i, i < w.heap.size → f i → w'.heap[i]? = w.heap[i]? ∧ g i) (hs : w.heap.size ≤ w'.heap.size) : PostAt w' x p g := by
 obtain ⟨h1, h2, A, c, h3, h4, h5, h6⟩ := h
 refine ⟨h1, h2, A, c, h3, h4, ⟨h5.len, h5.fit, h5.vals, h5.nil, fun ad e i q hq => ?_⟩, fun ad e h0 => ⟨Nat.lt_of_lt_of_le (h6 ad e h0).1 hs, (hk _ (h6 ad e h0).1 (h6 ad e h0).2).2⟩⟩
 have hlt := (List.getElem?_eq_some_iff.1 hq).1
 obtain ⟨q1, q2⟩ := h6 ad e (by omega)
 obtain ⟨c1, c2⟩ := h5.cells ad e i q hq
 have hb := (hk _ q1 q2).1
 have hblk : ∀ k, (ad.add k).block = ad.block := fun k => by unfold Addr.add; split <;> rfl
 exact ⟨(World.cell?_of_block (by rw [hblk]; exact hb)).trans c1, (World.cell?_of_block (by rw [hblk]; exact hb)).trans c2⟩
def PostsO (w : World) (base : Nat) (v : Value) (L : List (Int × List (Int × Int))) : Prop :=
 ∃ R : List (Int × Value), R.length = L.length ∧ w.ownsRow base 62 2 v L.length (R.flatMap docCells) ∧ ∀ (i : Nat) (p : Int × Value) (x : Int × List (Int × Int)), R[i]? = some p → L[i]? = some x → PostAt w x p fun i => base ≤ i ∧ v.ownBlock ≠ some i
theorem PostsO.nil (w : World) (base : Nat) : PostsO w base (.slice none 0 0) [] := ⟨[], rfl, ⟨rfl, .inl ⟨rfl, rfl⟩⟩, fun i p x h _ => by simp at h⟩
theorem PostsO.below {w w' : World} {base : Nat} {v : Value} {L : List (Int × List (Int × Int))} (h : PostsO w base v L) (hb : Below w.heap.size w w') : PostsO w' base v L := by
 obtain ⟨R, h0, h1, h2⟩ := h
 exact ⟨R, h0, ownsRow_block h1 fun g hg => hb.block g (h1.lt g hg).2, fun i p x e1 e2 => (h2 i p x e1 e2).mono (fun i hi hf => ⟨hb.block i hi, hf⟩) hb.size⟩
theorem PostsO.keepIn {w w' : World} {base : Nat} {v : Value} {L : List (Int × List (Int × Int))} (h : PostsO w base v L) (hk : ∀ i, base ≤ i → i < w.heap.size → w'.heap[i]? = w.heap[i]?) (hs : w.heap.size ≤ w'.heap.size) : PostsO w' base v L := by
 obtain ⟨R, h0, h1, h2⟩ := h
 exact ⟨R, h0, ownsRow_block h1 fun g hg => hk g (h1.lt g hg).1 (h1.lt g hg).2, fun i p x e1 e2 => (h2 i p x e1 e2).mono (fun i hi hf => ⟨hk i hf.1 hi, hf⟩) hs⟩
theorem PostsO.see {w : World} {base n c : Nat} {A : Option Addr} {L : List (Int × List (Int × Int))} (h : PostsO w base (.slice A n c) L) (hn : L.length = n) (h63 : n ≤ maxLen) : PostsSee w A n L where
 len := hn
 fit := h63
 nil := fun e => by
  obtain ⟨R, h0, h1, h2⟩ := h
  rcases h1.2 with ⟨_, h3⟩ | ⟨g, cap, cur, h3, _⟩
  ·omega
  ·rw [e] at h3; cases h3
 at_ := fun ad e i x hx => by
  obtain ⟨R, h0, h1, h2⟩ := h
  subst e
  have hz : ad = ⟨ad.block, 0, none⟩ := by
   rcases h1.2 with ⟨h3, _⟩ | ⟨g, cap, cur, h3, _⟩
   ·cases h3
   ·cases h3; rfl
  have hlt := (List.getElem?_eq_some_iff.1 hx).1
  obtain ⟨p, hp⟩ : ∃ p, R[i]? = some p := ⟨_, List.getElem?_eq_getElem (by omega)⟩
  obtain ⟨q1, q2, B, cc, q3, q4, q5, q6⟩ := h2 i p x hp hx
  have hc := fun j u (hj : (docCells p)[j]? = some u) => h1.cells (g := ad.block) rfl (i * 2 + j) u (doc_at R i j p u hp hj)
  have c0 := hc 0 _ rfl
  have c1 := hc 1 _ rfl
  have ha : ∀ k, (⟨ad.block, 0, none⟩ : Addr).add k = ⟨ad.block, k, none⟩ := fun k => by
   unfold Addr.add
   split
   ·rename_i h0; rw [h0]
   ·simp
  rw [ha] at c0 c1
  refine ⟨q2, ?_, B, cc, ?_, q4, q5⟩
  ·rw [hz, ha, ← q1]; exact c0
  ·rw [hz, ha, ← q3]; exact c1
theorem PostsO.push {w w' : World} {base : Nat} {v v' : Value} {L : List (Int × List (Int × Int))} {x : Int × List (Int × Int)} {p : Int × Value} {R : List (Int × Value)} (h0 : R.length = L.length)
  (h2 : ∀ (i : Nat) (p : Int × Value) (x : Int × List (Int × Int)), R[i]? = some p → L[i]? = some x → PostAt w x p fun i => base ≤ i ∧ v.ownBlock ≠ some i) (hx : PostAt w x p fun i => base ≤ i ∧ v.ownBlock ≠ some i)
  (ho : w'.ownsRow base 62 2 v' (L.length + 1) (R.flatMap docCells ++ docCells p)) (hg : w.grownBy w' v.ownBlock) (hloc : v'.ownBlock = v.ownBlock ∨ ∃ g, v'.ownBlock = some g ∧ w.heap.size ≤ g) : PostsO w' base v' (L ++ [x]) := by
 have keep : ∀ {y q}, PostAt w y q (fun i => base ≤ i ∧ v.ownBlock ≠ some i) → PostAt w' y q fun i => base ≤ i ∧ v'.ownBlock ≠ some i := fun h => h.mono (fun i hi hf => ⟨hg.block i hi (fun e => hf.2 e.symm), hf.1, by
  rcases hloc with e | ⟨g, e, hge⟩
  ·rw [e]; exact hf.2
  ·rw [e]
   intro e2
   have : g = i := Option.some.inj e2
   omega⟩) hg.size
 refine ⟨R ++ [p], by simp [h0], by simpa using ho, fun i q y e1 e2 => ?_⟩
 rcases Nat.lt_or_ge i L.length with hi | hi
 ·rw [List.getElem?_append_left (by omega)] at e1 e2
  exact keep (h2 i q y e1 e2)
 ·have hlt := (List.getElem?_eq_some_iff.1 e2).1
  simp at hlt
  obtain rfl : i = L.length := by omega
  rw [List.getElem?_append_right (by omega)] at e1 e2
  simp [h0] at e1 e2
  subst e1 e2
  exact keep hx
end Go.Proofs.YthcjikpabpgpfaaGreat
namespace Go.Proofs.YthcjikpabpgpfaaGreat
structure CSt where
 l : List Pst
 at_ : Nat
 read : Nat
 last : Int
def cStand (s : CSt) : CSt := if s.at_ < s.l.length ∧ (s.at_ / 4 : Nat) ≠ s.last then { s with read := s.read + 1, last := (s.at_ / 4 : Nat) } else s
def cIn (s : CSt) : Bool := decide (s.at_ < s.l.length)
def cStart (l : List Pst) : CSt := cStand ⟨l, 0, 0, -1⟩
def cNext (s : CSt) : CSt := cStand (if s.at_ < s.l.length then { s with at_ := s.at_ + 1 } else s)
def skipN (l : List Pst) (d : Int) : Nat → Nat → Nat
 | 0, a => a
 | f + 1, a => if a < l.length ∧ (pAt l a).1 < d then skipN l d f (a + 1) else a
def cSkip (s : CSt) (d : Int) : CSt := cStand { s with at_ := skipN s.l d (s.l.length - s.at_) s.at_ }
def cDoc (s : CSt) : Int := if s.at_ < s.l.length then (pAt s.l s.at_).1 else 0
def cSpots (s : CSt) : List (Int × Int) := if s.at_ < s.l.length then (pAt s.l s.at_).2 else []
theorem cStand_l (s : CSt) : (cStand s).l = s.l ∧ (cStand s).at_ = s.at_ := by
 unfold cStand
 split <;> exact ⟨rfl, rfl⟩
theorem cIn_stand (s : CSt) : cIn (cStand s) = cIn s := by
 unfold cIn
 rw [(cStand_l s).1, (cStand_l s).2]
structure CWF (s : CSt) : Prop where
 few : s.l.length ≤ 4096
 at_ : s.at_ ≤ s.l.length
 last : -1 ≤ s.last ∧ s.last ≤ (s.at_ / 4 : Nat)
 read : (s.read : Int) ≤ s.last + 1
 end_ : 4 * s.last < (s.l.length : Int)
 some : ∀ x ∈ s.l, 0 < x.2.length ∧ x.2.length ≤ 4096
theorem CWF.stand {s : CSt} (h : CWF s) : CWF (cStand s) := by
 have h1 := h.last
 have h2 := h.read
 unfold cStand
 split
 ·rename_i hc
  refine ⟨h.few, h.at_, ⟨?_, ?_⟩, ?_, ?_, h.some⟩
  ·simp only; omega
  ·simp only; omega
  ·simp only; push_cast; omega
  ·simp only; have := hc.1; omega
 ·exact h
theorem CWF.start {l : List Pst} (h : l.length ≤ 4096) (h1 : ∀ x ∈ l, 0 < x.2.length ∧ x.2.length ≤ 4096) : CWF (cStart l) := by
 unfold cStart
 exact CWF.stand ⟨h, Nat.zero_le _, ⟨by simp, by simp⟩, by simp, by simp only; omega, h1⟩
theorem skipN_le (l : List Pst) (d : Int) : ∀ (f a : Nat), a ≤ l.length → a ≤ skipN l d f a ∧ skipN l d f a ≤ l.length
 | 0, a, h => ⟨Nat.le_refl _, h⟩
 | f + 1, a, h => by
  simp only [skipN]
  split
  ·rename_i hc
   have := skipN_le l d f (a + 1) (by omega)
   omega
  ·exact ⟨Nat.le_refl _, h⟩
end Go.Proofs.YthcjikpabpgpfaaGreat
namespace Go.Proofs.YthcjikpabpgpfaaGreat
open Go.RowKit Go.Maps Go.WideMaps
def IntsBack (w : World) (l : List Int) (e : Ending) (w' : World) : Prop := ∃ A c, e = .returned (.slice A l.length c) ∧ IntsIn w' A l.length l ∧ l.length ≤ c ∧ Below w.heap.size w w'
def PostsBack (w : World) (l : List (Int × List (Int × Int))) (e : Ending) (w' : World) : Prop := ∃ A c, e = .returned (.slice A l.length c) ∧ PostsSee w' A l.length l ∧ l.length ≤ c ∧ Below w.heap.size w w'
theorem int64Info : (Tryz.prog.info? 2).map (fun i => (i.zero, i.size, i.bytes)) = some (some (.int .i64 0), 1, 8) := by kernel_rfl
end Go.Proofs.YthcjikpabpgpfaaGreat
namespace Go.Proofs.YthcjikpabpgpfaaGreat
theorem getL_le {l : List UInt8} (h : (getL l).2.2 = 0) : (getL l).2.1 ≤ l.length ∧ (getL l).1 < 2 ^ 64 := by
 rcases hg : getL l with ⟨v, k, e⟩
 rw [hg] at h
 simp only at h
 subst h
 obtain ⟨_, _, h3, _, h5⟩ := getL_inv hg
 exact ⟨h3, h5⟩
theorem getR_le {l : List UInt8} {most : Int} (h : (getR l most).2.2 = 0) : (getR l most).2.1 ≤ l.length ∧ ((getR l most).1.length : Int) ≤ most ∧ rises (-1) (getR l most).1 = true ∧ ∀ x ∈ (getR l most).1, x ≤ 9223372036854775807 := by
 rcases hg : getR l most with ⟨v, k, e⟩
 rw [hg] at h
 simp only at h
 subst h
 obtain ⟨h1, h2, h3, _, h5⟩ := getR_inv hg
 exact ⟨h3, h5, h1, h2⟩
theorem past1_in {b : List UInt8} {n : Nat} (h : n ≤ b.length) : past1 b n ≤ b.length := by
 unfold past1
 split
 ·rename_i h1
  have := (getL_le h1).1
  rw [List.length_drop] at this
  omega
 ·exact h
theorem pastB_in {b : List UInt8} {n : Nat} (h : n ≤ b.length) : pastB b n ≤ b.length := past1_in (past1_in h)
theorem skipB_in {b : List UInt8} {i n : Nat} (h : n ≤ b.length) : skipB b i n ≤ b.length := by
 unfold skipB
 have h1 := pastB_in h
 split <;> split <;> first | exact pastB_in h1 | exact pastB_in h | exact h1 | exact h
theorem rises_ge {l : List Int} {p : Int} (h : rises p l = true) : ∀ y ∈ l, p < y := by
 induction l generalizing p with
 | nil => intro y hy; cases hy
 | cons x l ih =>
  simp only [rises, Bool.and_eq_true, decide_eq_true_eq] at h
  intro y hy
  rcases List.mem_cons.1 hy with rfl | hy
  ·exact h.1
  ·have := ih h.2 y hy; omega
theorem zip_in {a c : List Int} {x : Int × Int} (h : x ∈ a.zip c) : x.1 ∈ a ∧ x.2 ∈ c := ⟨(List.of_mem_zip h).1, (List.of_mem_zip h).2⟩
structure OneOk (b : List UInt8) (d : Nat) (s : List (Int × Int)) (n2 : Nat) : Prop where
 doc : d ≤ 4294967296
 end_ : n2 ≤ b.length
 few : s.length ≤ 4096
 fit : ∀ x ∈ s, 0 ≤ x.1 ∧ x.1 ≤ 9223372036854775807 ∧ 0 ≤ x.2 ∧ x.2 ≤ 9223372036854775807
theorem rdOne_ok {b : List UInt8} {n d n2 : Nat} {s : List (Int × Int)} (h : rdOne b n = some (d, s, n2)) (hn : n ≤ b.length) : OneOk b d s n2 := by
 unfold rdOne at h
 split at h
 ·cases h
 ·rename_i h1
  split at h
  ·cases h
  ·rename_i h2
   split at h
   ·cases h
   ·rename_i h3
    simp only [Option.some.injEq, Prod.mk.injEq] at h
    obtain ⟨e1, e2, e3⟩ := h
    have g1 := getL_le (Decidable.not_not.1 fun h => h1 (.inl h))
    have g2 := getR_le (Decidable.not_not.1 h2)
    have g3 := getR_le (Decidable.not_not.1 fun h => h3 (.inl h))
    rw [List.length_drop] at g1 g2 g3
    refine ⟨by omega, by omega, ?_, fun x hx => ?_⟩
    ·rw [← e2, List.length_zip]
     omega
    ·rw [← e2] at hx
     obtain ⟨q1, q2⟩ := zip_in hx
     have a1 := rises_ge g2.2.2.1 _ q1
     have a2 := rises_ge g3.2.2.1 _ q2
     exact ⟨by omega, g2.2.2.2 _ q1, by omega, g3.2.2.2 _ q2⟩
structure UpOk (b : List UInt8) (k : Nat) (l : List Pst) (n : Nat) (doc : Int) : Prop where
 len : l.length = k
 end_ : n ≤ b.length
 doc : -1 ≤ doc ∧ doc ≤ -1 + 4294967297 * (k : Int)
 docs : ∀ x ∈ l, -1 ≤ x.1 ∧ x.1 ≤ 4294967297 * (k : Int)
 few : ∀ x ∈ l, x.2.length ≤ 4096
 fit : ∀ x ∈ l, ∀ s ∈ x.2, 0 ≤ s.1 ∧ s.1 ≤ 9223372036854775807 ∧ 0 ≤ s.2 ∧ s.2 ≤ 9223372036854775807
theorem rdUp_ok {b : List UInt8} {n0 : Nat} (h0 : n0 ≤ b.length) : ∀ (k : Nat) (l : List Pst) (n : Nat) (doc : Int), rdUp b n0 k = some (l, n, doc) → UpOk b k l n doc
 | 0, l, n, doc, h => by
  simp only [rdUp, Option.some.injEq, Prod.mk.injEq] at h
  obtain ⟨rfl, rfl, rfl⟩ := h
  exact ⟨rfl, h0, by omega, fun x hx => (by cases hx), fun x hx => (by cases hx), fun x hx => (by cases hx)⟩
 | k + 1, l, n, doc, h => by
  rw [rdUp] at h
  split at h
  ·cases h
  ·rename_i l' n' doc' h1
   have ih := rdUp_ok h0 k l' n' doc' h1
   split at h
   ·cases h
   ·rename_i d s n2 h2
    simp only [Option.some.injEq, Prod.mk.injEq] at h
    obtain ⟨rfl, rfl, rfl⟩ := h
    have ho := rdOne_ok h2 (skipB_in ih.end_)
    have hd := ho.doc
    have i1 := ih.doc
    refine ⟨by simp [ih.len], ho.end_, by omega, fun x hx => ?_, fun x hx => ?_, fun x hx => ?_⟩
    ·rcases List.mem_append.1 hx with h | h
     ·have := ih.docs x h; omega
     ·rw [List.mem_singleton.1 h]; simp only; omega
    ·rcases List.mem_append.1 hx with h | h
     ·exact ih.few x h
     ·rw [List.mem_singleton.1 h]; exact ho.few
    ·rcases List.mem_append.1 hx with h | h
     ·exact ih.fit x h
     ·rw [List.mem_singleton.1 h]; exact ho.fit
theorem pAt_take {l : List Pst} {k i : Nat} (h : i < k) : pAt (l.take k) i = pAt l i := by
 unfold pAt
 rw [List.getD_eq_getElem?_getD, List.getD_eq_getElem?_getD, List.getElem?_take, if_pos h]
theorem getP_fit {b : List UInt8} : FitP (getP b).1 := by
 intro x hx s hs
 unfold getP at hx
 split at hx
 ·cases hx
 ·rename_i hc
  split at hx
  ·cases hx
  ·rename_i l' n' d' hu
   have hg := getL_le (l := b) (Decidable.not_not.1 fun h => hc (.inl h))
   have hok := rdUp_ok hg.1 _ _ _ _ hu
   split at hx
   ·exact ⟨(hok.fit x hx s hs).2.1, (hok.fit x hx s hs).2.2.2⟩
   ·cases hx
theorem docs_le {l : List Pst} (h : ValidP l) {i : Nat} : ∀ {k : Nat}, i + k < l.length → (pAt l i).1 ≤ (pAt l (i + k)).1
 | 0, _ => Int.le_refl _
 | k + 1, hk => by
  have h1 := docs_le h (i := i) (k := k) (by omega)
  have h2 := h.up (i + (k + 1)) hk
  unfold lastD at h2
  rw [if_neg (by omega), show i + (k + 1) - 1 = i + k by omega] at h2
  omega
theorem docs_mono {l : List Pst} (h : ValidP l) {i j : Nat} (hij : i ≤ j) (hj : j < l.length) : (pAt l i).1 ≤ (pAt l j).1 := by
 have := docs_le h (i := i) (k := j - i) (by omega)
 rwa [show i + (j - i) = j by omega] at this
section
variable {l : List Pst} (h : ValidP l) {m : Nat} (hm : m ≤ l.length)
include h hm
end
end Go.Proofs.YthcjikpabpgpfaaGreat
namespace Go.Proofs.YthcjikpabpgpfaaGreat
theorem pAt_left {a b : List Pst} {i : Nat} (h : i < a.length) : pAt (a ++ b) i = pAt a i := by
 unfold pAt
 rw [List.getD_eq_getElem?_getD, List.getD_eq_getElem?_getD, List.getElem?_append_left h]
theorem pAt_right {a b : List Pst} {i : Nat} (h : a.length ≤ i) : pAt (a ++ b) i = pAt b (i - a.length) := by
 unfold pAt
 rw [List.getD_eq_getElem?_getD, List.getD_eq_getElem?_getD, List.getElem?_append_right h]
theorem pAt_drop {l : List Pst} {k i : Nat} : pAt (l.drop k) i = pAt l (k + i) := by
 unfold pAt
 rw [List.getD_eq_getElem?_getD, List.getD_eq_getElem?_getD, List.getElem?_drop]
theorem skipN_spec (l : List Pst) (d : Int) : ∀ (f a : Nat), f = l.length - a → a ≤ l.length → (∀ i, a ≤ i → i < skipN l d f a → (pAt l i).1 < d) ∧ (skipN l d f a < l.length → d ≤ (pAt l (skipN l d f a)).1)
 | 0, a, hf, ha => by
  simp only [skipN]
  exact ⟨fun i h1 h2 => by omega, fun h => by omega⟩
 | f + 1, a, hf, ha => by
  simp only [skipN]
  split
  ·rename_i hc
   obtain ⟨h1, h2⟩ := skipN_spec l d f (a + 1) (by omega) (by omega)
   refine ⟨fun i h3 h4 => ?_, h2⟩
   rcases Nat.eq_or_lt_of_le h3 with rfl | h5
   ·exact hc.2
   ·exact h1 i h5 h4
  ·rename_i hc
   refine ⟨fun i h1 h2 => by omega, fun h => ?_⟩
   by_cases h3 : (pAt l a).1 < d
   ·exact absurd ⟨h, h3⟩ hc
   ·omega
def firstN (l : List Pst) (d : Int) (a : Nat) : Nat := skipN l d (l.length - a) a
structure IsFirst (l : List Pst) (d : Int) (a p : Nat) : Prop where
 from_ : a ≤ p
 upto : p ≤ l.length
 less : ∀ i, a ≤ i → i < p → (pAt l i).1 < d
 here : p < l.length → d ≤ (pAt l p).1
theorem firstN_is {l : List Pst} {d : Int} {a : Nat} (ha : a ≤ l.length) : IsFirst l d a (firstN l d a) := by
 have h1 := skipN_le l d (l.length - a) a ha
 have h2 := skipN_spec l d (l.length - a) a rfl ha
 exact ⟨h1.1, h1.2, h2.1, h2.2⟩
theorem IsFirst.unique {l : List Pst} {d : Int} {a p q : Nat} (h : IsFirst l d a p) (k : IsFirst l d a q) : p = q := by
 rcases Nat.lt_trichotomy p q with h1 | h1 | h1
 ·have h2 := k.less p h.from_ h1
  have h3 := h.here (by have := k.upto; omega)
  omega
 ·exact h1
 ·have h2 := h.less q k.from_ h1
  have h3 := k.here (by have := h.upto; omega)
  omega
theorem IsFirst.eq {l : List Pst} {d : Int} {a p : Nat} (h : IsFirst l d a p) (ha : a ≤ l.length) : firstN l d a = p := (firstN_is ha).unique h
end Go.Proofs.YthcjikpabpgpfaaGreat
