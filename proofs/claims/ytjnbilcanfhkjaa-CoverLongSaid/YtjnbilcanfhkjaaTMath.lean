/- What the tries hold, told by the document's own words. -/
import Derived.Test.YtjnbilcanfhkjaaTAdd
namespace Go.Proofs.Ytjnbilcanfhkjaa
open Go.RowKit Go.Maps Go.WideMaps

theorem putUp_at (X : Key → List Int) (t : Nat) (ys : Nm) (i : Int) {j : Nat} (hj : j ≤ ys.length) (k : Key) :
    putUp X t ys i j k = if k.1 = t ∧ k.2.length ≤ j ∧ ys.take k.2.length = k.2 then addI i (X k) else X k := by
  induction j generalizing k with
  | zero =>
    unfold putUp
    by_cases h : k = (t, [])
    · subst h
      rw [upd_same, if_pos ⟨rfl, Nat.le_refl _, rfl⟩]
    · rw [upd_other _ _ h, if_neg]
      rintro ⟨h1, h2, _⟩
      exact h (Prod.ext h1 (List.eq_nil_of_length_eq_zero (by omega)))
  | succ j ih =>
    have hl : (ys.take (j + 1)).length = j + 1 := by rw [List.length_take]; omega
    unfold putUp
    by_cases h : k = (t, ys.take (j + 1))
    · rw [h, upd_same, ih (by omega), if_neg (by rintro ⟨_, h2, _⟩; simp only [hl] at h2; omega), if_pos ⟨rfl, by simp only [hl]; omega, by simp only [hl]⟩]
    · rw [upd_other _ _ h, ih (by omega)]
      by_cases h2 : k.1 = t ∧ k.2.length ≤ j ∧ ys.take k.2.length = k.2
      · rw [if_pos h2, if_pos ⟨h2.1, by omega, h2.2.2⟩]
      · rw [if_neg h2, if_neg]
        rintro ⟨h3, h4, h5⟩
        rcases Nat.lt_or_ge j k.2.length with h6 | h6
        · have h7 : k.2.length = j + 1 := by omega
          rw [h7] at h5
          exact h (Prod.ext h3 h5.symm)
        · exact h2 ⟨h3, h6, h5⟩
theorem idxUp_mem {P : Nm → Bool} {L : List Nm} : ∀ {n : Nat} {v : Int}, v ∈ idxUp P L n → 0 ≤ v ∧ v < n
  | 0, v, h => by simp [idxUp] at h
  | n + 1, v, h => by
    simp only [idxUp] at h
    split at h
    · rcases List.mem_append.1 h with h | h
      · have := idxUp_mem h; omega
      · rw [List.mem_singleton] at h; omega
    · have := idxUp_mem h; omega
theorem addI_idx (P : Nm → Bool) (L : List Nm) (n : Nat) : addI n (idxUp P L n) = idxUp P L n ++ [(n : Int)] := by
  rcases List.eq_nil_or_concat (idxUp P L n) with h | ⟨l, x, h⟩
  · rw [h]; rfl
  · have hx : x < (n : Int) := (idxUp_mem (v := x) (by rw [h]; simp)).2
    rw [h, List.concat_eq_append, addI_snoc, if_pos hx]
theorem addI_again (l : List Int) (n : Int) : addI n (l ++ [n]) = l ++ [n] := by
  rw [addI_snoc, if_neg (by omega)]
theorem idx_step {P : Nm → Bool} {L : List Nm} {n : Nat} {x : Nm} (hx : L[n]? = some x) (b : Prop) [Decidable b] (hb : b ↔ P x = true) :
    (if b then addI n (idxUp P L n) else idxUp P L n) = idxUp P L (n + 1) := by
  by_cases h : b
  · rw [if_pos h, addI_idx, idxUp_yes hx (hb.1 h)]
  · rw [if_neg h, idxUp_no hx (by cases e : P x with
      | true => exact absurd (hb.2 e) h
      | false => rfl)]
theorem atB_nat (x s : Nm) (k : Nat) : atB x k s = true ↔ k + s.length ≤ x.length ∧ (x.drop k).take s.length = s := by
  unfold atB
  simp only [Bool.and_eq_true, decide_eq_true_eq, beq_iff_eq, Int.toNat_natCast]
  constructor
  · rintro ⟨_, h1, h2⟩; exact ⟨by omega, h2⟩
  · rintro ⟨h1, h2⟩; exact ⟨by omega, by omega, h2⟩
theorem at_head (x p : Nm) : ((0 : Nat) = 0 ∧ p.length ≤ x.length ∧ x.take p.length = p) ↔ atB x 0 p = true := by
  have := atB_nat x p 0
  simp only [Nat.zero_add, List.drop_zero, Int.natCast_zero] at this
  rw [this]
  exact ⟨fun ⟨_, h⟩ => h, fun h => ⟨rfl, h⟩⟩
theorem at_tail (x p : Nm) : ((1 : Nat) = 1 ∧ p.length ≤ x.length ∧ x.reverse.take p.length = p) ↔ atB x ((x.length : Int) - (p.length : Int)) p.reverse = true := by
  by_cases h : p.length ≤ x.length
  · rw [show (x.length : Int) - (p.length : Int) = ((x.length - p.length : Nat) : Int) by omega, atB_nat]
    simp only [List.length_reverse, h, true_and]
    have e : (x.drop (x.length - p.length)).take p.length = x.drop (x.length - p.length) := List.take_of_length_le (by rw [List.length_drop]; omega)
    rw [e, List.take_reverse, ← List.reverse_eq_iff]
    constructor
    · intro h2; exact ⟨by omega, h2⟩
    · rintro ⟨_, h2⟩; exact h2
  · constructor
    · rintro ⟨_, h2, _⟩; exact absurd h2 h
    · intro h2
      exfalso
      unfold atB at h2
      simp only [Bool.and_eq_true, decide_eq_true_eq] at h2
      omega

/-- What a trie of the first n texts finds. -/
structure HoldsX (X : Key → List Int) (L : List Nm) (n : Nat) : Prop where
  head : ∀ p, X (0, p) = idxUp (fun t => atB t 0 p) L n
  tail : ∀ p, X (1, p) = idxUp (fun t => atB t ((t.length : Int) - (p.length : Int)) p.reverse) L n
  inside : ∀ p, X (2, p) = idxUp (fun t => infB t p) L n
theorem insideUp_other (X : Key → List Int) (x : Nm) (i : Int) {f : Nat} (hf : f ≤ x.length + 1) (k : Key) (hk : k.1 ≠ 2) : insideUp X x i f k = X k := by
  induction f with
  | zero => rfl
  | succ f ih =>
    unfold insideUp
    rw [putUp_at _ _ _ _ (by rw [List.length_drop]; exact Nat.le_refl _), if_neg (fun h => hk h.1)]
    exact ih (by omega)
theorem insideUp_at {X : Key → List Int} {x p : Nm} {P : Nm → Bool} {L : List Nm} {n : Nat} (hX : X (2, p) = idxUp P L n) {f : Nat} (hf : f ≤ x.length + 1) :
    insideUp X x n f (2, p) = if anyUp x p f = true then idxUp P L n ++ [(n : Int)] else idxUp P L n := by
  induction f with
  | zero => exact hX
  | succ f ih =>
    have hc : ((2 : Nat) = 2 ∧ p.length ≤ x.length - f ∧ (x.drop f).take p.length = p) ↔ atB x f p = true := by
      rw [atB_nat]
      exact ⟨fun ⟨_, h1, h2⟩ => ⟨by omega, h2⟩, fun ⟨h1, h2⟩ => ⟨rfl, by omega, h2⟩⟩
    unfold insideUp
    rw [putUp_at _ _ _ _ (by rw [List.length_drop]; exact Nat.le_refl _), ih (by omega), anyUp_succ]
    cases ha : anyUp x p f with
    | true =>
      simp only [if_true, Bool.true_or]
      split
      · exact addI_again _ _
      · rfl
    | false =>
      rw [Bool.false_or]
      by_cases h : atB x f p = true
      · rw [if_pos (hc.2 h), if_pos h, if_neg (by simp), addI_idx]
      · rw [if_neg (fun h2 => h (hc.1 h2)), if_neg h, if_neg (by simp)]
theorem HoldsX.step {X : Key → List Int} {L : List Nm} {n : Nat} {x : Nm} (h : HoldsX X L n) (hx : L[n]? = some x) : HoldsX (addX X x n) L (n + 1) := by
  have hr : x.length ≤ x.reverse.length := by rw [List.length_reverse]; exact Nat.le_refl _
  refine ⟨fun p => ?_, fun p => ?_, fun p => ?_⟩
  · unfold addX
    rw [insideUp_other _ _ _ (Nat.le_refl _) _ (by simp), putUp_at _ _ _ _ hr, if_neg (by simp), putUp_at _ _ _ _ (Nat.le_refl _), h.head]
    exact idx_step hx _ (at_head x p)
  · unfold addX
    rw [insideUp_other _ _ _ (Nat.le_refl _) _ (by simp), putUp_at _ _ _ _ hr, putUp_at X _ _ _ (Nat.le_refl _), if_neg (c := (1, p).1 = 0 ∧ _) (by simp), h.tail]
    exact idx_step hx _ (at_tail x p)
  · have h2 : putUp (putUp X 0 x n x.length) 1 x.reverse n x.length (2, p) = idxUp (fun t => infB t p) L n := by
      rw [putUp_at _ _ _ _ hr, if_neg (by simp), putUp_at _ _ _ _ (Nat.le_refl _), if_neg (by simp), h.inside]
    unfold addX
    rw [insideUp_at h2 (Nat.le_refl _)]
    have e : anyUp x p (x.length + 1) = infB x p := rfl
    rw [e]
    cases hi : infB x p with
    | true => rw [if_pos rfl, idxUp_yes hx hi]
    | false => rw [if_neg (by simp), idxUp_no hx hi]
theorem HoldsX.zero (L : List Nm) : HoldsX (fun _ => []) L 0 := ⟨fun _ => rfl, fun _ => rfl, fun _ => rfl⟩
end Go.Proofs.Ytjnbilcanfhkjaa
