/- What MemAll counts: all tokens' spots together are the documents' tokens. -/
import Derived.Test.YtmnofmcfkchebaaMmLaw0
namespace Go.Proofs.Ytmnofmcfkchebaa
set_option linter.unusedSimpArgs false

theorem spot_count (x : MDoc) (t : Int) : ∀ k, k ≤ x.T.length → (spotUp x t k).length = (x.T.take k).count t
  | 0, _ => by simp [spotUp]
  | k + 1, h => by
    have ih := spot_count x t k (by omega)
    have h1 : x.T[k]? = some (x.T.getD k 0) := by rw [List.getD_eq_getElem?_getD, List.getElem?_eq_getElem (by omega)]; rfl
    rw [spotUp, List.take_add_one, h1, List.count_append]
    by_cases e : x.T.getD k 0 = t
    · rw [if_pos e, List.length_append, ih, e]
      simp
    · rw [if_neg e, ih]
      have h2 : List.count t (some (x.T.getD k 0)).toList = 0 := List.count_eq_zero.2 (by simp; exact fun h => e h.symm)
      rw [h2]
      rfl
theorem spots_count (x : MDoc) (t : Int) : (mSpots x t).length = x.T.count t := by
  unfold mSpots
  rw [spot_count x t _ (Nat.le_refl _), List.take_length]
/-- How many spots there are in all. -/
def spotsOf (l : List Pst) : Nat := (l.map fun p => p.2.length).sum
theorem posts_count (L : List MDoc) (t : Int) : ∀ k, k ≤ L.length → spotsOf (postUp L t k) = ((L.take k).map fun x => x.T.count t).sum
  | 0, _ => by simp [postUp, spotsOf]
  | k + 1, h => by
    have ih := posts_count L t k (by omega)
    unfold spotsOf at ih
    rw [postUp, List.take_add_one, mD_get (by omega)]
    unfold spotsOf
    rw [List.map_append, List.map_append, List.sum_append, List.sum_append, ih]
    unfold postOne
    have hc := spots_count (mD L k) t
    split
    · simp [hc]
    · simp
      omega
theorem count_all : ∀ (T l : List Int), l.Nodup → (∀ a ∈ T, a ∈ l) → (l.map fun t => T.count t).sum = T.length
  | [], l, _, _ => by
    rw [show (fun t : Int => List.count t []) = fun _ => 0 by funext t; simp]
    induction l with
    | nil => rfl
    | cons a r ih => simp_all
  | a :: T, l, hn, hm => by
    have ih := count_all T l hn (fun b hb => hm b (List.mem_cons_of_mem _ hb))
    have h1 : ∀ m : List Int, (m.map fun t => (a :: T).count t).sum = (m.map fun t => T.count t).sum + m.count a := fun m => by
      induction m with
      | nil => rfl
      | cons b r ih2 =>
        rw [List.map_cons, List.sum_cons, ih2, List.map_cons, List.sum_cons, List.count_cons, List.count_cons]
        by_cases e : a = b
        · subst e
          simp
          omega
        · have e2 : ¬ b = a := fun h => e h.symm
          simp [e, e2]
          omega
    rw [h1, ih, hn.count (a := a), if_pos (hm a (List.mem_cons_self ..))]
    rfl
theorem sum_swap {α : Type} (l : List Int) (L : List α) (f : Int → α → Nat) : (l.map fun t => (L.map fun x => f t x).sum).sum = (L.map fun x => (l.map fun t => f t x).sum).sum := by
  induction L with
  | nil =>
    simp only [List.map_nil, List.sum_nil]
    induction l with
    | nil => rfl
    | cons a r ih => simp_all
  | cons x r ih =>
    simp only [List.map_cons, List.sum_cons]
    rw [← ih]
    clear ih
    induction l with
    | nil => rfl
    | cons a s ih2 =>
      simp only [List.map_cons, List.sum_cons]
      omega
/-- All terms' spots together. -/
theorem terms_count (L : List MDoc) : ((mTerms L).map fun t => spotsOf (mPosts L t)).sum = totT L := by
  have hn : (mTerms L).Nodup := (terms_up L).imp fun h => by omega
  have h1 : (fun t => spotsOf (mPosts L t)) = fun t => (L.map fun x => x.T.count t).sum := by
    funext t
    unfold mPosts
    rw [posts_count L t _ (Nat.le_refl _), List.take_length]
  rw [h1, sum_swap]
  unfold totT
  congr 1
  refine List.map_congr_left fun x hx => count_all x.T _ hn fun a ha => terms_mem.2 ⟨x, hx, ha⟩
end Go.Proofs.Ytmnofmcfkchebaa
