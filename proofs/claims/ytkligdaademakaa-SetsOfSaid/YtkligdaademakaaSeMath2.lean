/- Rising lists: what And, Or, Less make of them. -/
import Derived.Test.YtkligdaademakaaSeMath
import Derived.Test.YtkligdaademakaaSeSpec
namespace Go.Proofs.Ytkligdaademakaa

theorem rises_less {l : List Int} {p q : Int} (h : rises p l = true) (hq : q ≤ p) : rises q l = true := by
  cases l with
  | nil => rfl
  | cons x r =>
    simp only [rises, Bool.and_eq_true, decide_eq_true_eq] at h ⊢
    exact ⟨by omega, h.2⟩
theorem rises_gt {l : List Int} {p : Int} (h : rises p l = true) : ∀ y ∈ l, p < y := by
  induction l generalizing p with
  | nil => intro y hy; cases hy
  | cons x l ih =>
    simp only [rises, Bool.and_eq_true, decide_eq_true_eq] at h
    intro y hy
    rcases List.mem_cons.1 hy with rfl | hy
    · exact h.1
    · have := ih h.2 y hy; omega
theorem rises_filter {l : List Int} {p : Int} (f : Int → Bool) (h : rises p l = true) : rises p (l.filter f) = true := by
  induction l generalizing p with
  | nil => rfl
  | cons x l ih =>
    simp only [rises, Bool.and_eq_true, decide_eq_true_eq] at h
    rw [List.filter_cons]
    split
    · simp only [rises, Bool.and_eq_true, decide_eq_true_eq]
      exact ⟨h.1, ih h.2⟩
    · exact rises_less (ih h.2) (by omega)
theorem rises_ext {l m : List Int} {p : Int} (h : rises p l = true) (k : rises p m = true) (he : ∀ x, x ∈ l ↔ x ∈ m) : l = m := by
  induction l generalizing p m with
  | nil =>
    cases m with
    | nil => rfl
    | cons y m => exact absurd ((he y).2 (List.mem_cons_self ..)) (by simp)
  | cons x l ih =>
    cases m with
    | nil => exact absurd ((he x).1 (List.mem_cons_self ..)) (by simp)
    | cons y m =>
      simp only [rises, Bool.and_eq_true, decide_eq_true_eq] at h k
      have g1 := rises_gt h.2
      have g2 := rises_gt k.2
      have hxy : x = y := by
        rcases List.mem_cons.1 ((he x).1 (List.mem_cons_self ..)) with h1 | h1
        · exact h1
        · rcases List.mem_cons.1 ((he y).2 (List.mem_cons_self ..)) with h2 | h2
          · exact h2.symm
          · have := g1 y h2; have := g2 x h1; omega
      subst hxy
      rw [ih h.2 k.2 fun z => ?_]
      constructor
      · intro hz
        rcases List.mem_cons.1 ((he z).1 (List.mem_cons_of_mem _ hz)) with h1 | h1
        · have := g1 z hz; omega
        · exact h1
      · intro hz
        rcases List.mem_cons.1 ((he z).2 (List.mem_cons_of_mem _ hz)) with h1 | h1
        · have := g2 z hz; omega
        · exact h1
theorem mem_or (a b : List Int) (x : Int) : x ∈ orI a b ↔ x ∈ a ∨ x ∈ b := by
  induction a, b using orI.induct with
  | case1 b => simp [orI]
  | case2 a r => simp [orI]
  | case3 a r b s h ih => rw [orI, if_pos h, List.mem_cons, ih, List.mem_cons (a := x) (b := a)]; simp [or_assoc]
  | case4 a r b s h h2 ih =>
    rw [orI, if_neg h, if_pos h2, List.mem_cons, ih]
    simp only [List.mem_cons]
    constructor
    · rintro (h | (h | h) | h)
      · exact .inr (.inl h)
      · exact .inl (.inl h)
      · exact .inl (.inr h)
      · exact .inr (.inr h)
    · rintro ((h | h) | (h | h))
      · exact .inr (.inl (.inl h))
      · exact .inr (.inl (.inr h))
      · exact .inl h
      · exact .inr (.inr h)
  | case5 a r b s h h2 ih =>
    obtain rfl : a = b := by omega
    rw [orI, if_neg h, if_neg h2, List.mem_cons, ih]
    simp only [List.mem_cons]
    constructor
    · rintro (h | h | h)
      · exact .inl (.inl h)
      · exact .inl (.inr h)
      · exact .inr (.inr h)
    · rintro ((h | h) | (h | h))
      · exact .inl h
      · exact .inr (.inl h)
      · exact .inl h
      · exact .inr (.inr h)
theorem rises_or {a b : List Int} {p : Int} (ha : rises p a = true) (hb : rises p b = true) : rises p (orI a b) = true := by
  induction a, b using orI.induct generalizing p with
  | case1 b => simpa [orI] using hb
  | case2 a r => simpa [orI] using ha
  | case3 a r b s h ih =>
    simp only [rises, Bool.and_eq_true, decide_eq_true_eq] at ha
    rw [orI, if_pos h]
    simp only [rises, Bool.and_eq_true, decide_eq_true_eq] at hb ⊢
    exact ⟨ha.1, ih ha.2 (by simp only [rises, Bool.and_eq_true, decide_eq_true_eq]; exact ⟨h, hb.2⟩)⟩
  | case4 a r b s h h2 ih =>
    simp only [rises, Bool.and_eq_true, decide_eq_true_eq] at hb
    rw [orI, if_neg h, if_pos h2]
    simp only [rises, Bool.and_eq_true, decide_eq_true_eq] at ha ⊢
    exact ⟨hb.1, ih (by simp only [rises, Bool.and_eq_true, decide_eq_true_eq]; exact ⟨h2, ha.2⟩) hb.2⟩
  | case5 a r b s h h2 ih =>
    obtain rfl : a = b := by omega
    simp only [rises, Bool.and_eq_true, decide_eq_true_eq] at ha hb
    rw [orI, if_neg h, if_neg h2]
    simp only [rises, Bool.and_eq_true, decide_eq_true_eq]
    exact ⟨ha.1, ih ha.2 hb.2⟩
theorem mem_and (a b : List Int) (x : Int) : x ∈ andI a b ↔ x ∈ a ∧ x ∈ b := by simp [andI, hasI]
theorem mem_less (a b : List Int) (x : Int) : x ∈ lessI a b ↔ x ∈ a ∧ x ∉ b := by simp [lessI, hasI]
theorem rises_and {a b : List Int} {p : Int} (h : rises p a = true) : rises p (andI a b) = true := rises_filter _ h
theorem rises_lessI {a b : List Int} {p : Int} (h : rises p a = true) : rises p (lessI a b) = true := rises_filter _ h
theorem or_nil (a : List Int) : orI [] a = a := by simp [orI]

theorem law_one {a b : List Int} (ha : rises (-1) a = true) (hb : rises (-1) b = true) : andL [a, b] = andL [b, a] := by
  show andI a b = andI b a
  exact rises_ext (rises_and ha) (rises_and hb) fun x => by rw [mem_and, mem_and]; exact And.comm
theorem law_two {a b c : List Int} (ha : rises (-1) a = true) (hb : rises (-1) b = true) (hc : rises (-1) c = true) : orL [a, b, c] = orL [orL [c, b], a] := by
  show orI (orI (orI [] a) b) c = orI (orI [] (orI (orI [] c) b)) a
  simp only [or_nil]
  exact rises_ext (rises_or (rises_or ha hb) hc) (rises_or (rises_or hc hb) ha) fun x => by
    simp only [mem_or]
    constructor
    · rintro ((h | h) | h)
      · exact .inr h
      · exact .inl (.inr h)
      · exact .inl (.inl h)
    · rintro ((h | h) | h)
      · exact .inr h
      · exact .inl (.inr h)
      · exact .inl (.inl h)
theorem law_three {a b : List Int} (ha : rises (-1) a = true) : orL [andL [a, b], lessI a b] = a := by
  show orI (orI [] (andI a b)) (lessI a b) = a
  rw [or_nil]
  exact rises_ext (rises_or (rises_and ha) (rises_lessI ha)) ha fun x => by
    rw [mem_or, mem_and, mem_less]
    constructor
    · rintro (h | h) <;> exact h.1
    · intro h
      rcases Decidable.em (x ∈ b) with h2 | h2
      · exact .inl ⟨h, h2⟩
      · exact .inr ⟨h, h2⟩
theorem law_four {a b c : List Int} (ha : rises (-1) a = true) : lessI a (orL [b, c]) = andL [lessI a b, lessI a c] := by
  show lessI a (orI (orI [] b) c) = andI (lessI a b) (lessI a c)
  rw [or_nil]
  exact rises_ext (rises_lessI ha) (rises_and (rises_lessI ha)) fun x => by
    rw [mem_less, mem_or, mem_and, mem_less, mem_less]
    constructor
    · rintro ⟨h1, h2⟩
      exact ⟨⟨h1, fun e => h2 (.inl e)⟩, h1, fun e => h2 (.inr e)⟩
    · rintro ⟨⟨h1, h2⟩, _, h3⟩
      exact ⟨h1, fun e => e.elim h2 h3⟩
theorem rises_snoc' {l : List Int} {p x : Int} (h : rises p l = true) (hx : l.getLastD p < x) : rises p (l ++ [x]) = true := by
  induction l generalizing p with
  | nil => simpa [rises] using hx
  | cons y r ih =>
    simp only [rises, Bool.and_eq_true, decide_eq_true_eq, List.cons_append] at h ⊢
    rw [List.getLastD_cons] at hx
    exact ⟨h.1, ih h.2 hx⟩
theorem list_rise (l : List Int) : rises (-1) (listI l) = true := by
  have : ∀ k, rises (-1) (listUp l k).1 = true ∧ (listUp l k).2 = (listUp l k).1.getLastD (-1) := by
    intro k
    induction k with
    | zero => exact ⟨rfl, rfl⟩
    | succ k ih =>
      simp only [listUp]
      split
      · rename_i h
        refine ⟨rises_snoc' ih.1 (by rw [← ih.2]; exact h), by simp⟩
      · exact ih
  exact (this l.length).1
end Go.Proofs.Ytkligdaademakaa
