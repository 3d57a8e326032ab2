/- Beginnings of postings, bytes that are cut, postings out of order. -/
import Derived.Test.YtmcoooepoikgjaaPMath4
namespace Go.Proofs.Ytmcoooepoikgjaa

theorem pAt_take {l : List Pst} {k i : Nat} (h : i < k) : pAt (l.take k) i = pAt l i := by
  unfold pAt
  rw [List.getD_eq_getElem?_getD, List.getD_eq_getElem?_getD, List.getElem?_take, if_pos h]
theorem lastD_take {l : List Pst} {k i : Nat} (h : i ≤ k) : lastD (l.take k) i = lastD l i := by
  unfold lastD
  split
  · rfl
  · rw [pAt_take (by omega)]
theorem ValidP.take {l : List Pst} (h : ValidP l) (k : Nat) : ValidP (l.take k) where
  few := by rw [List.length_take]; have := h.few; omega
  spots := fun x hx => h.spots x (List.mem_of_mem_take hx)
  some := fun x hx => h.some x (List.mem_of_mem_take hx)
  docs := fun x hx => h.docs x (List.mem_of_mem_take hx)
  up := fun i hi => by
    rw [List.length_take] at hi
    rw [lastD_take (by omega), pAt_take (by omega)]
    exact h.up i (by omega)
  pos := fun x hx => h.pos x (List.mem_of_mem_take hx)
  at_ := fun x hx => h.at_ x (List.mem_of_mem_take hx)
  fit := fun x hx => h.fit x (List.mem_of_mem_take hx)
theorem getP_fit {b : List UInt8} : FitP (getP b).1 := by
  intro x hx s hs
  unfold getP at hx
  split at hx
  · cases hx
  · rename_i hc
    split at hx
    · cases hx
    · rename_i l' n' d' hu
      have hg := getL_le (l := b) (Decidable.not_not.1 fun h => hc (.inl h))
      have hok := rdUp_ok hg.1 _ _ _ _ hu
      split at hx
      · exact ⟨(hok.fit x hx s hs).2.1, (hok.fit x hx s hs).2.2.2⟩
      · cases hx
theorem getP_cut {l : List Pst} (hl : ValidP l) {k : Nat} (hk : k < (putP l).length) : (getP ((putP l).take k)).2 = 3 := by
  rcases getP_err ((putP l).take k) with h | h
  · exfalso
    obtain ⟨h1, h2⟩ := getP_some h
    have hv := (check_ok getP_fit).1 h1
    have h4 : putP (getP ((putP l).take k)).1 ++ (putP l).drop k = putP l ++ [] := by rw [h2, List.take_append_drop, List.append_nil]
    have h5 := (putP_inj hv hl h4).2
    have h6 := congrArg List.length h5
    rw [List.length_drop] at h6
    simp at h6
    omega
  · rw [h]
theorem getP_more {l : List Pst} (hl : ValidP l) (y : UInt8) : (getP (putP l ++ [y])).2 = 3 := by
  rcases getP_err (putP l ++ [y]) with h | h
  · exfalso
    obtain ⟨h1, h2⟩ := getP_some h
    have hv := (check_ok getP_fit).1 h1
    have h4 : putP (getP (putP l ++ [y])).1 ++ [] = putP l ++ [y] := by rw [h2, List.append_nil]
    have h5 := (putP_inj hv hl h4).2
    cases h5
  · rw [h]

theorem docs_le {l : List Pst} (h : ValidP l) {i : Nat} : ∀ {k : Nat}, i + k < l.length → (pAt l i).1 ≤ (pAt l (i + k)).1
  | 0, _ => Int.le_refl _
  | k + 1, hk => by
    have h1 := docs_le h (i := i) (k := k) (by omega)
    have h2 := h.up (i + (k + 1)) hk
    unfold lastD at h2
    rw [if_neg (by omega), show i + (k + 1) - 1 = i + k by omega] at h2
    omega
theorem docs_mono {l : List Pst} (h : ValidP l) {i j : Nat} (hij : i ≤ j) (hj : j < l.length) : (pAt l i).1 ≤ (pAt l j).1 := by
  have := docs_le h (i := i) (k := j - i) (by omega)
  rwa [show i + (j - i) = j by omega] at this
theorem cat_len_le {f g : Nat → List UInt8} {a : Nat} : ∀ {k : Nat}, (∀ i, a ≤ i → i < a + k → (f i).length ≤ (g i).length) → (cat f a k).length ≤ (cat g a k).length
  | 0, _ => Nat.le_refl _
  | k + 1, h => by
    have h1 := cat_len_le (k := k) fun i h2 h3 => h i h2 (by omega)
    have h2 := h (a + k) (by omega) (by omega)
    simp only [cat, List.length_append]
    omega
theorem cat_len_mono (g : Nat → List UInt8) (a : Nat) {j k : Nat} (h : j ≤ k) : (cat g a j).length ≤ (cat g a k).length := by
  obtain ⟨d, rfl⟩ : ∃ d, k = j + d := ⟨k - j, by omega⟩
  rw [cat_add, List.length_append]
  omega
theorem head_short {l : List Pst} (h : ValidP l) {m f t t' : Nat} (hft : f < t') (htt : t' ≤ t) (htm : t' ≤ m) (ht : t ≤ l.length) {b b' : List UInt8} (hb : b'.length ≤ b.length) : (headB (l.take m) f t' b').length ≤ (headB l f t b).length := by
  unfold headB
  rw [pAt_take (by omega), lastD_take (by omega), List.length_append, List.length_append]
  have h1 := docs_mono h (i := t' - 1) (j := t - 1) (by omega) (by omega)
  have h2 := putL_mono ((pAt l (t' - 1)).1 - lastD l f - 1).toNat ((pAt l (t - 1)).1 - lastD l f - 1).toNat (by omega)
  have h3 := putL_mono b'.length b.length hb
  omega
theorem unit_take {l : List Pst} {m i : Nat} (hi : i < m) : unitB (l.take m) i = unitB l i := by
  unfold unitB
  rw [pAt_take hi, lastD_take (by omega)]
section
variable {l : List Pst} (h : ValidP l) {m : Nat} (hm : m ≤ l.length)
include h hm
theorem block_short {i : Nat} (hi : i < m) : (blockB (l.take m) i).length ≤ (blockB l i).length := by
  unfold blockB
  rw [List.length_take, Nat.min_eq_left hm]
  refine head_short h (by omega) (by omega) (by omega) (by omega) ?_
  rw [cat_congr (f := unitB (l.take m)) (g := unitB l) fun j h1 h2 => unit_take (by omega)]
  exact cat_len_mono _ _ (by omega)
theorem linB_short {i : Nat} (hi : i < m) : (linB (l.take m) i).length ≤ (linB l i).length := by
  unfold linB
  rw [unit_take hi]
  split
  · have := block_short h hm hi
    simp only [List.length_append]
    omega
  · exact Nat.le_refl _
theorem group_short {i : Nat} (hi : i < m) : (groupB (l.take m) i).length ≤ (groupB l i).length := by
  unfold groupB
  rw [List.length_take, Nat.min_eq_left hm]
  refine head_short h (by omega) (by omega) (by omega) (by omega) ?_
  exact Nat.le_trans (cat_len_le fun j h1 h2 => linB_short h hm (by omega)) (cat_len_mono _ _ (by omega))
theorem lin_short {i : Nat} (hi : i < m) : (lin (l.take m) i).length ≤ (lin l i).length := by
  unfold lin
  have := linB_short h hm hi
  split
  · have := group_short h hm hi
    simp only [List.length_append]
    omega
  · exact this
end
theorem lin_some (l : List Pst) (i : Nat) : 0 < (lin l i).length := by
  have h1 : 0 < (unitB l i).length := by
    unfold unitB
    have := putL_pos ((pAt l i).1 - lastD l i - 1).toNat
    rw [List.length_append]
    omega
  unfold lin linB
  simp only [List.length_append]
  omega
theorem putP_short {l : List Pst} (h : ValidP l) (h0 : 0 < l.length) : (putP (l.take (l.length - 1))).length < (putP l).length := by
  unfold putP
  rw [List.length_take, Nat.min_eq_left (by omega), List.length_append, List.length_append]
  have h1 := putL_mono (l.length - 1) l.length (by omega)
  have h2 := cat_len_le (f := lin (l.take (l.length - 1))) (g := lin l) (a := 0) (k := l.length - 1) fun i _ hi => lin_short h (by omega) (by omega)
  have h3 : cat (lin l) 0 l.length = cat (lin l) 0 (l.length - 1) ++ lin l (l.length - 1) := by
    have := cat_add (lin l) 0 (l.length - 1) 1
    rw [show l.length - 1 + 1 = l.length by omega] at this
    rw [this]
    simp [cat]
  have h4 := lin_some l (l.length - 1)
  rw [h3, List.length_append]
  omega
end Go.Proofs.Ytmcoooepoikgjaa
