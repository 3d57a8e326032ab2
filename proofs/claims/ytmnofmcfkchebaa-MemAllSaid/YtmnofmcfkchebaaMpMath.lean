/- The landed mem in plain words: places, gathered by token; a token's postings out of its places. -/
import Derived.Test.YtmnofmcfkchebaaMmValid
namespace Go.Proofs.Ytmnofmcfkchebaa

/-- A place: a document, and a spot. -/
abbrev Pl := Int × Int × Int
/-- Of the first tokens of a document those places where a token stands. -/
def plUp (x : MDoc) (t : Int) (k : Nat) : List Pl := (spotUp x t k).map fun s => (x.doc, s)
/-- All places of a token. -/
def plOf (L : List MDoc) (t : Int) : List Pl := L.flatMap fun x => plUp x t x.T.length
theorem plUp_next (x : MDoc) (t : Int) (k : Nat) : plUp x t (k + 1) = if x.T.getD k 0 = t then plUp x t k ++ [(x.doc, (k : Int), x.S.getD k 0)] else plUp x t k := by
  unfold plUp
  rw [spotUp]
  split
  · rw [List.map_append]; rfl
  · rfl
theorem plUp_len (x : MDoc) (t : Int) (k : Nat) : (plUp x t k).length ≤ k := by
  unfold plUp
  rw [List.length_map]
  exact spotUp_len x t k
theorem plOf_append (L : List MDoc) (x : MDoc) (t : Int) : plOf (L ++ [x]) t = plOf L t ++ plUp x t x.T.length := by
  unfold plOf
  rw [List.flatMap_append, List.flatMap_singleton]
theorem plOf_len (L : List MDoc) (t : Int) : (plOf L t).length ≤ totT L := by
  induction L with
  | nil => simp [plOf]
  | cons x L ih =>
    have h1 := plUp_len x t x.T.length
    have h2 : plOf (x :: L) t = plUp x t x.T.length ++ plOf L t := rfl
    have h3 : totT (x :: L) = x.T.length + totT L := by simp [totT]
    rw [h2, List.length_append]
    omega
theorem plUp_some {x : MDoc} {t : Int} : plUp x t x.T.length ≠ [] ↔ t ∈ x.T := by
  constructor
  · intro h
    obtain ⟨p, hp⟩ := List.exists_mem_of_ne_nil _ h
    obtain ⟨s, hs, -⟩ := List.mem_map.1 hp
    obtain ⟨i, h1, h2, -⟩ := spotUp_mem.1 hs
    rw [← h2, List.getD_eq_getElem?_getD, List.getElem?_eq_getElem h1]
    exact List.getElem_mem h1
  · intro h e
    obtain ⟨i, h1, h2⟩ := List.getElem_of_mem h
    have h3 : ((i : Int), x.S.getD i 0) ∈ spotUp x t x.T.length := spotUp_mem.2 ⟨i, h1, by rw [List.getD_eq_getElem?_getD, List.getElem?_eq_getElem h1]; exact h2, rfl⟩
    have h4 : (x.doc, (i : Int), x.S.getD i 0) ∈ plUp x t x.T.length := List.mem_map.2 ⟨_, h3, rfl⟩
    rw [e] at h4
    cases h4
theorem plOf_some {L : List MDoc} {t : Int} : plOf L t ≠ [] ↔ t ∈ mTerms L := by
  rw [terms_mem]
  induction L with
  | nil => simp [plOf]
  | cons x L ih =>
    have h2 : plOf (x :: L) t = plUp x t x.T.length ++ plOf L t := rfl
    rw [h2]
    constructor
    · intro h
      by_cases h3 : plUp x t x.T.length = []
      · rw [h3, List.nil_append] at h
        obtain ⟨y, hy, h4⟩ := ih.1 h
        exact ⟨y, List.mem_cons_of_mem _ hy, h4⟩
      · exact ⟨x, List.mem_cons_self .., plUp_some.1 h3⟩
    · rintro ⟨y, hy, h4⟩ e
      obtain ⟨e1, e2⟩ := List.append_eq_nil_iff.1 e
      rcases List.mem_cons.1 hy with rfl | h5
      · exact plUp_some.2 h4 e1
      · exact ih.2 ⟨y, h5, h4⟩ e2

/-- One place more, in the postings. -/
def grp1 (l : List Pst) (p : Pl) : List Pst := match l.getLast? with
  | none => [(p.1, [p.2])]
  | some x => if x.1 = p.1 then l.dropLast ++ [(x.1, x.2 ++ [p.2])] else l ++ [(p.1, [p.2])]
theorem grp1_nil (p : Pl) : grp1 [] p = [(p.1, [p.2])] := rfl
theorem grp1_same {P : List Pst} {x : Pst} {p : Pl} (h : x.1 = p.1) : grp1 (P ++ [x]) p = P ++ [(x.1, x.2 ++ [p.2])] := by
  unfold grp1
  rw [List.getLast?_concat]
  simp only [if_pos h, List.dropLast_concat]
theorem grp1_other {P : List Pst} {x : Pst} {p : Pl} (h : x.1 ≠ p.1) : grp1 (P ++ [x]) p = (P ++ [x]) ++ [(p.1, [p.2])] := by
  unfold grp1
  rw [List.getLast?_concat]
  simp only [if_neg h]
theorem last_split : ∀ (l : List Pst), l = [] ∨ ∃ P x, l = P ++ [x] := fun l => by
  rcases List.eq_nil_or_concat l with h | ⟨P, x, h⟩
  · exact .inl h
  · exact .inr ⟨P, x, by simpa using h⟩
/-- The postings of the first places. -/
def grpUp (ps : List Pl) : List Pst := ps.foldl grp1 []
theorem grpUp_next {ps : List Pl} {k : Nat} {p : Pl} (h : ps[k]? = some p) : grpUp (ps.take (k + 1)) = grp1 (grpUp (ps.take k)) p := by
  unfold grpUp
  rw [List.take_add_one, h, List.foldl_append]
  rfl
theorem grp1_len (l : List Pst) (p : Pl) : (grp1 l p).length ≤ l.length + 1 := by
  rcases last_split l with rfl | ⟨P, x, rfl⟩
  · rw [grp1_nil]; simp
  · by_cases h : x.1 = p.1
    · rw [grp1_same h]; simp
    · rw [grp1_other h]; simp
/-- How long they may be: postings, and each one's spots. -/
theorem grp_small (ps : List Pl) : ∀ k, k ≤ ps.length → (grpUp (ps.take k)).length ≤ k ∧ ∀ x ∈ grpUp (ps.take k), x.2.length ≤ k
  | 0, _ => by simp [grpUp]
  | k + 1, hk => by
    obtain ⟨h1, h2⟩ := grp_small ps k (by omega)
    rw [grpUp_next (List.getElem?_eq_getElem (by omega : k < ps.length))]
    refine ⟨by have := grp1_len (grpUp (ps.take k)) ps[k]; omega, fun y hy => ?_⟩
    rcases last_split (grpUp (ps.take k)) with e | ⟨P, x, e⟩
    · rw [e, grp1_nil] at hy
      rw [List.mem_singleton.1 hy]
      simp
    · rw [e] at hy h2
      by_cases h : x.1 = (ps[k]).1
      · rw [grp1_same h] at hy
        rcases List.mem_append.1 hy with hy | hy
        · have := h2 y (by simp [hy]); omega
        · have := h2 x (by simp)
          rw [List.mem_singleton.1 hy]
          simp; omega
      · rw [grp1_other h] at hy
        rcases List.mem_append.1 hy with hy | hy
        · have := h2 y hy; omega
        · rw [List.mem_singleton.1 hy]
          simp
theorem grp_doc {P : List Pst} {x : MDoc} {t : Int} (hP : ∀ y ∈ P, y.1 ≠ x.doc) : ∀ k, (plUp x t k).foldl grp1 P = if spotUp x t k = [] then P else P ++ [(x.doc, spotUp x t k)]
  | 0 => by simp [plUp, spotUp]
  | k + 1 => by
    have ih := grp_doc hP (t := t) k
    rw [plUp_next, spotUp]
    split
    · rw [List.foldl_append, ih]
      simp only [List.foldl_cons, List.foldl_nil]
      rw [if_neg (by simp : ¬ (spotUp x t k ++ [((k : Int), x.S.getD k 0)] = []))]
      by_cases h : spotUp x t k = []
      · rw [if_pos h, h]
        rcases last_split P with rfl | ⟨Q, y, rfl⟩
        · rfl
        · rw [grp1_other (hP y (by simp))]
          rfl
      · rw [if_neg h, grp1_same rfl]
    · exact ih
theorem grp_docs {L : List MDoc} (hL : MWF L) (t : Int) : ∀ i, i ≤ L.length → (plOf (L.take i) t).foldl grp1 [] = postUp L t i
  | 0, _ => by simp [plOf, postUp]
  | i + 1, hi => by
    have hx : L[i]? = some (L[i]'(by omega)) := List.getElem?_eq_getElem _
    have ih := grp_docs hL t i (by omega)
    rw [List.take_add_one, hx, Option.toList_some, plOf_append, List.foldl_append, ih, postUp, mD_at hx, grp_doc (fun y hy e => ?_)]
    · unfold postOne mSpots
      by_cases h : spotUp L[i] t L[i].T.length = []
      · rw [if_pos h, if_neg (by rw [h]; simp), List.append_nil]
      · rw [if_neg h, if_pos (List.length_pos_iff.2 h)]
    · obtain ⟨j, h1, rfl, -⟩ := mposts_from hy
      have := hL.up j i h1 (by omega)
      rw [mD_at hx] at this
      simp only at e
      omega
/-- A token's places make its postings. -/
theorem grp_posts {L : List MDoc} (hL : MWF L) (t : Int) : grpUp (plOf L t) = mPosts L t := by
  have := grp_docs hL t L.length (Nat.le_refl _)
  rw [List.take_length] at this
  exact this
/-- Numbers of places that fit. -/
theorem plUp_fit {x : MDoc} (hx : DocOk x) {t : Int} {p : Pl} : ∀ {k : Nat}, k ≤ x.T.length → p ∈ plUp x t k → (0 ≤ p.1 ∧ p.1 ≤ 4294967296) ∧ (0 ≤ p.2.1 ∧ p.2.1 < 4096) ∧ 0 ≤ p.2.2 ∧ p.2.2 ≤ 9223372036854775807 := fun {k} hk h => by
  obtain ⟨s, hs, rfl⟩ := List.mem_map.1 h
  obtain ⟨i, h1, h2, rfl⟩ := spotUp_mem.1 hs
  have h3 := hx.tok (i := i) (by omega)
  have h4 : x.S.getD i 0 ∈ x.S := by
    have := hx.same
    rw [List.getD_eq_getElem?_getD, List.getElem?_eq_getElem (by omega)]
    exact List.getElem_mem _
  have h5 := hx.fit.2 _ h4
  have := hx.few
  exact ⟨hx.doc, ⟨by simp, by simp; omega⟩, h3.2, h5⟩
theorem plOf_fit {L : List MDoc} (hL : MWF L) {t : Int} {p : Pl} (h : p ∈ plOf L t) : (0 ≤ p.1 ∧ p.1 ≤ 4294967296) ∧ (0 ≤ p.2.1 ∧ p.2.1 < 4096) ∧ 0 ≤ p.2.2 ∧ p.2.2 ≤ 9223372036854775807 := by
  obtain ⟨x, hx, h2⟩ := List.mem_flatMap.1 h
  exact plUp_fit (hL.ok x hx) (Nat.le_refl _) h2
/-- What the program asks of a document: no fewer than the least that may come. -/
theorem lastM_at {L : List MDoc} (h : 0 < L.length) : lastM L = (mD L (L.length - 1)).doc := by
  unfold lastM
  rw [if_neg (by omega)]
theorem lastM_low {L : List MDoc} (hL : MWF L) : -1 ≤ lastM L ∧ lastM L ≤ 4294967296 := by
  unfold lastM
  split
  · omega
  · have := (hL.ok _ (mD_mem (by omega : L.length - 1 < L.length))).doc
    omega
theorem mErr_is {L : List MDoc} (hL : MWF L) (x : MDoc) : mErr L x = if L.length = 4096 ∨ 4096 < x.T.length then 2 else if x.doc < lastM L + 1 ∨ 4294967296 < x.doc ∨ x.T.length ≠ x.S.length ∨ badTo x x.T.length = true then 1 else 0 := by
  have h1 := hL.few
  unfold mErr
  by_cases h2 : L.length = 4096 ∨ 4096 < x.T.length
  · rw [if_pos h2, if_pos (by omega)]
  · rw [if_neg h2, if_neg (by omega)]
    have h3 : (x.doc < 0 ∨ 4294967296 < x.doc ∨ (0 < L.length ∧ x.doc ≤ (mD L (L.length - 1)).doc)) ↔ (x.doc < lastM L + 1 ∨ 4294967296 < x.doc) := by
      rcases Nat.eq_zero_or_pos L.length with h0 | h0
      · unfold lastM
        rw [if_pos h0]
        omega
      · rw [lastM_at h0]
        have := (hL.ok _ (mD_mem (by omega : L.length - 1 < L.length))).doc
        omega
    by_cases h4 : x.doc < lastM L + 1 ∨ 4294967296 < x.doc
    · have h5 := h3.2 h4
      rw [if_pos (by omega), if_pos (by omega)]
    · have h5 := fun h => h4 (h3.1 h)
      by_cases h6 : x.T.length ≠ x.S.length
      · rw [if_pos (by omega), if_pos (by omega)]
      · rw [if_neg (by omega)]
        by_cases h7 : badTo x x.T.length = true
        · rw [if_pos h7, if_pos (.inr (.inr (.inr h7)))]
        · rw [if_neg h7, if_neg (by rintro (h | h | h | h) <;> first | exact h7 h | omega)]
theorem lastM_next {L : List MDoc} {x : MDoc} : lastM (L ++ [x]) = x.doc := by
  rw [lastM_at (by simp), List.length_append, List.length_singleton, Nat.add_sub_cancel, mD_last]
end Go.Proofs.Ytmnofmcfkchebaa
