/- What a set has, by runs: plain words. -/
import Derived.Test.YtkligdaademakaaSeMath2
namespace Go.Proofs.Ytkligdaademakaa

def fromL (d : Int) (l : List Int) : List Int := l.dropWhile fun x => decide (x < d)
/-- Rising, 0 or greater, within the reach. -/
structure Up (l : List Int) : Prop where
  up : rises (-1) l = true
  most : ∀ x ∈ l, x ≤ 9223372036854775807
theorem Up.nil : Up [] := ⟨rfl, by simp⟩
theorem Up.pos {l : List Int} (h : Up l) : ∀ x ∈ l, 0 ≤ x := fun x hx => by have := rises_gt h.up x hx; omega
theorem fromL_filter {l : List Int} {p d : Int} (h : rises p l = true) : fromL d l = l.filter fun x => decide (d ≤ x) := by
  induction l generalizing p with
  | nil => rfl
  | cons x r ih =>
    simp only [rises, Bool.and_eq_true, decide_eq_true_eq] at h
    unfold fromL at ih ⊢
    rw [List.dropWhile_cons, List.filter_cons]
    by_cases hx : x < d
    · rw [if_pos (by simpa using hx), if_neg (by simp; omega)]
      exact ih h.2
    · rw [if_neg (by simpa using hx), if_pos (by simp; omega)]
      congr 1
      symm
      rw [List.filter_eq_self]
      intro y hy
      have := rises_gt h.2 y hy
      simp
      omega
theorem Up.mem_from {l : List Int} (h : Up l) (d x : Int) : x ∈ fromL d l ↔ x ∈ l ∧ d ≤ x := by
  rw [fromL_filter h.up]
  simp
theorem Up.from {l : List Int} (h : Up l) (d : Int) : Up (fromL d l) := by
  rw [fromL_filter h.up]
  exact ⟨rises_filter _ h.up, fun x hx => h.most x (List.mem_filter.1 hx).1⟩
theorem Up.ext {l m : List Int} (h : Up l) (k : Up m) (he : ∀ x, x ∈ l ↔ x ∈ m) : l = m := rises_ext h.up k.up he
/-- The first one. -/
theorem Up.first {l : List Int} {a : Int} (ha : a ∈ l) (hl : ∀ x ∈ l, a ≤ x) (h : Up l) : l.headD 0 = a ∧ l.isEmpty = false := by
  cases l with
  | nil => cases ha
  | cons x r =>
    refine ⟨?_, rfl⟩
    have hu := h.up
    simp only [rises, Bool.and_eq_true, decide_eq_true_eq] at hu
    show x = a
    rcases List.mem_cons.1 ha with h1 | h1
    · exact h1.symm
    · have := rises_gt hu.2 a h1
      have := hl x (List.mem_cons_self ..)
      omega
theorem Up.head {l : List Int} (h : Up l) (hn : l.isEmpty = false) : l.headD 0 ∈ l ∧ ∀ x ∈ l, l.headD 0 ≤ x := by
  cases l with
  | nil => cases hn
  | cons x r =>
    refine ⟨List.mem_cons_self .., fun y hy => ?_⟩
    have hu := h.up
    simp only [rises, Bool.and_eq_true, decide_eq_true_eq] at hu
    show x ≤ y
    rcases List.mem_cons.1 hy with h1 | h1
    · omega
    · have := rises_gt hu.2 y h1; omega
theorem Up.andI {a b : List Int} (h : Up a) : Up (andI a b) := ⟨rises_and h.up, fun x hx => h.most x ((mem_and a b x).1 hx).1⟩
theorem Up.orI {a b : List Int} (h : Up a) (k : Up b) : Up (orI a b) := ⟨rises_or h.up k.up, fun x hx => ((mem_or a b x).1 hx).elim (h.most x) (k.most x)⟩
theorem Up.lessI {a b : List Int} (h : Up a) : Up (lessI a b) := ⟨rises_lessI h.up, fun x hx => h.most x ((mem_less a b x).1 hx).1⟩
theorem fold_and (r : List (List Int)) : ∀ a : List Int, Up a → Up (r.foldl andI a) ∧ ∀ x, x ∈ r.foldl andI a ↔ x ∈ a ∧ ∀ l ∈ r, x ∈ l := by
  induction r with
  | nil => intro a h; exact ⟨h, by simp⟩
  | cons y r ih =>
    intro a h
    obtain ⟨h1, h2⟩ := ih (andI a y) h.andI
    refine ⟨h1, fun x => ?_⟩
    rw [List.foldl_cons, h2, mem_and]
    simp only [List.mem_cons, forall_eq_or_imp]
    exact ⟨fun ⟨⟨q1, q2⟩, q3⟩ => ⟨q1, q2, q3⟩, fun ⟨q1, q2, q3⟩ => ⟨⟨q1, q2⟩, q3⟩⟩
theorem up_and {X : List (List Int)} (h : ∀ l ∈ X, Up l) : Up (andL X) := by
  cases X with
  | nil => exact Up.nil
  | cons a r => exact (fold_and r a (h a (List.mem_cons_self ..))).1
theorem mem_andL {X : List (List Int)} (h : ∀ l ∈ X, Up l) (hn : X ≠ []) (x : Int) : x ∈ andL X ↔ ∀ l ∈ X, x ∈ l := by
  cases X with
  | nil => exact absurd rfl hn
  | cons a r =>
    show x ∈ r.foldl andI a ↔ _
    rw [(fold_and r a (h a (List.mem_cons_self ..))).2]
    simp
theorem fold_or (r : List (List Int)) : ∀ a : List Int, Up a → (∀ l ∈ r, Up l) → Up (r.foldl orI a) ∧ ∀ x, x ∈ r.foldl orI a ↔ x ∈ a ∨ ∃ l ∈ r, x ∈ l := by
  induction r with
  | nil => intro a h _; exact ⟨h, by simp⟩
  | cons y r ih =>
    intro a h hr
    obtain ⟨h1, h2⟩ := ih (orI a y) (h.orI (hr y (List.mem_cons_self ..))) (fun l hl => hr l (List.mem_cons_of_mem _ hl))
    refine ⟨h1, fun x => ?_⟩
    rw [List.foldl_cons, h2, mem_or]
    simp only [List.mem_cons, exists_eq_or_imp]
    exact or_assoc
theorem up_or {X : List (List Int)} (h : ∀ l ∈ X, Up l) : Up (orL X) := (fold_or X [] Up.nil h).1
theorem mem_orL {X : List (List Int)} (h : ∀ l ∈ X, Up l) (x : Int) : x ∈ orL X ↔ ∃ l ∈ X, x ∈ l := by
  have := (fold_or X [] Up.nil h).2 x
  simpa [orL] using this
/-- It begins with m documents from a on. -/
structure RunOf (l : List Int) (a m : Int) : Prop where
  pos : 0 < m
  low : 0 ≤ a
  fit : a + m ≤ 9223372036854775808
  wide : m ≤ 9223372036854775807
  first : ∀ x ∈ l, a ≤ x
  all : ∀ x, a ≤ x → x < a + m → x ∈ l
theorem RunOf.mem {l : List Int} {a m : Int} (h : RunOf l a m) : a ∈ l := h.all a (Int.le_refl _) (by have := h.pos; omega)
theorem RunOf.head {l : List Int} {a m : Int} (h : RunOf l a m) (hu : Up l) : l.headD 0 = a ∧ l.isEmpty = false := Up.first h.mem h.first hu
/-- Further on within the run. -/
theorem RunOf.on {l : List Int} {a m d : Int} (h : RunOf l a m) (hu : Up l) (hd : max d a - a < m) : RunOf (fromL d l) (a + (max d a - a)) (m - (max d a - a)) := by
  have h1 := h.low
  have h2 := h.fit
  have h7 := h.wide
  refine ⟨by omega, by omega, by omega, by omega, fun x hx => ?_, fun x h3 h4 => ?_⟩
  · obtain ⟨h5, h6⟩ := (hu.mem_from d x).1 hx
    have := h.first x h5
    omega
  · exact (hu.mem_from d x).2 ⟨h.all x (by omega) (by omega), by omega⟩
theorem fromL_nil (d : Int) : fromL d [] = [] := rfl
theorem from_from {l : List Int} (h : Up l) {a d : Int} (had : a ≤ d) : fromL d (fromL a l) = fromL d l :=
  ((h.from a).from d).ext (h.from d) fun x => by rw [(h.from a).mem_from, h.mem_from, h.mem_from]; exact ⟨fun ⟨⟨q1, _⟩, q3⟩ => ⟨q1, q3⟩, fun ⟨q1, q2⟩ => ⟨⟨q1, by omega⟩, q2⟩⟩
end Go.Proofs.Ytkligdaademakaa
