/- Postings as bytes: how long; two alike; which there are. -/
import Derived.Test.YtmcoooepoikgjaaPMath
namespace Go.Proofs.Ytmcoooepoikgjaa

theorem putGapsR_len (l : List Int) : ∀ p : Int, -1 ≤ p → rises p l = true → (∀ x ∈ l, x ≤ 9223372036854775807) → (putGaps (gaps p l)).length ≤ 10 * l.length := by
  induction l with
  | nil => intro p _ _ _; simp [gaps, putGaps]
  | cons x l ih =>
    intro p hp hr h
    simp only [rises, Bool.and_eq_true, decide_eq_true_eq] at hr
    have hx := h x (List.mem_cons_self ..)
    have h1 := putL_len (x - p - 1).toNat (by omega)
    have := ih x (by omega) hr.2 fun y hy => h y (List.mem_cons_of_mem _ hy)
    simp only [gaps, putGaps, List.flatMap_cons, List.length_append, List.length_cons] at this ⊢
    omega
theorem putR_len {l : List Int} (hn : l.length ≤ 4096) (hr : rises (-1) l = true) (h : ∀ x ∈ l, x ≤ 9223372036854775807) : (putR l).length ≤ 40970 := by
  have h1 := putGapsR_len l (-1) (by omega) hr h
  have h2 := putL_len l.length (by omega)
  unfold putR
  rw [List.length_append]
  omega
theorem unit_len {l : List Pst} (hl : ValidP l) {i : Nat} (hi : i < l.length) : (unitB l i).length ≤ 90000 := by
  have p1 := poss_le (hl.fit _ (pAt_mem hi))
  have n1 := poss_len (pAt l i).2
  have s1 := hl.spots _ (pAt_mem hi)
  have h1 := putR_len (by omega) (hl.pos _ (pAt_mem hi)) p1.1
  have h2 := putR_len (by omega) (hl.at_ _ (pAt_mem hi)) p1.2
  have q1 := hl.docs _ (pAt_mem hi)
  have w1 := hl.last (Nat.le_of_lt hi)
  have h3 := putL_len ((pAt l i).1 - lastD l i - 1).toNat (by omega)
  unfold unitB
  simp only [List.length_append]
  omega
theorem units_len {l : List Pst} (hl : ValidP l) {i k : Nat} (h : i + k ≤ l.length) : (cat (unitB l) i k).length ≤ 90000 * k := len_cat _ _ _ _ fun j h1 h2 => unit_len hl (by omega)
theorem block_len {l : List Pst} (hl : ValidP l) {i : Nat} (hi : i < l.length) : (blockB l i).length ≤ 20 := by
  have h1 := units_len hl (i := i) (k := min l.length (i + 4) - i) (by omega)
  unfold blockB headB
  have h2 := putL_len _ (head_val hl (f := i) (t := min l.length (i + 4)) (by omega) (by omega))
  have h3 := putL_len (cat (unitB l) i (min l.length (i + 4) - i)).length (by omega)
  rw [List.length_append]
  omega
theorem linB_len {l : List Pst} (hl : ValidP l) {i : Nat} (hi : i < l.length) : (linB l i).length ≤ 90020 := by
  have h1 := unit_len hl hi
  have h2 := block_len hl hi
  unfold linB
  rw [List.length_append]
  split
  · omega
  · simp; omega
theorem linBs_len {l : List Pst} (hl : ValidP l) {i k : Nat} (h : i + k ≤ l.length) : (cat (linB l) i k).length ≤ 90020 * k := len_cat _ _ _ _ fun j h1 h2 => linB_len hl (by omega)
theorem group_len {l : List Pst} (hl : ValidP l) {i : Nat} (hi : i < l.length) : (groupB l i).length ≤ 20 := by
  have h1 := linBs_len hl (i := i) (k := min l.length (i + 16) - i) (by omega)
  unfold groupB headB
  have h2 := putL_len _ (head_val hl (f := i) (t := min l.length (i + 16)) (by omega) (by omega))
  have h3 := putL_len (cat (linB l) i (min l.length (i + 16) - i)).length (by omega)
  rw [List.length_append]
  omega
theorem lin_len {l : List Pst} (hl : ValidP l) {i : Nat} (hi : i < l.length) : (lin l i).length ≤ 90040 := by
  have h1 := linB_len hl hi
  have h2 := group_len hl hi
  unfold lin
  rw [List.length_append]
  split
  · omega
  · simp; omega
theorem lins_len {l : List Pst} (hl : ValidP l) {i k : Nat} (h : i + k ≤ l.length) : (cat (lin l) i k).length ≤ 90040 * k := len_cat _ _ _ _ fun j h1 h2 => lin_len hl (by omega)
theorem putP_len {l : List Pst} (hl : ValidP l) : (putP l).length ≤ 368803860 := by
  have h1 := lins_len hl (i := 0) (k := l.length) (by omega)
  have h2 := hl.few
  have h3 := putL_len l.length (by omega)
  unfold putP
  rw [List.length_append]
  omega

/-- Two heads: whatever they say, what comes behind both is alike. -/
theorem head_inj {a b c d : Nat} (ha : a < 2 ^ 64) (hb : b < 2 ^ 64) (hc : c < 2 ^ 64) (hd : d < 2 ^ 64) {x y : List UInt8} (h : putL a ++ putL b ++ x = putL c ++ putL d ++ y) : x = y := by
  rw [List.append_assoc, List.append_assoc] at h
  obtain ⟨_, h⟩ := putL_inj ha hc h
  exact (putL_inj hb hd h).2
theorem lin_inj {l m : List Pst} (hl : ValidP l) (hm : ValidP m) {i : Nat} (h1 : i < l.length) (h2 : i < m.length) (hd : lastD l i = lastD m i) {x y : List UInt8} (h : lin l i ++ x = lin m i ++ y) : pAt l i = pAt m i ∧ x = y := by
  have b1 := units_len hl (i := i) (k := min l.length (i + 4) - i) (by omega)
  have b2 := units_len hm (i := i) (k := min m.length (i + 4) - i) (by omega)
  have g1 := linBs_len hl (i := i) (k := min l.length (i + 16) - i) (by omega)
  have g2 := linBs_len hm (i := i) (k := min m.length (i + 16) - i) (by omega)
  have hb : linB l i ++ x = linB m i ++ y := by
    unfold lin at h
    by_cases h16 : i % 16 = 0
    · rw [if_pos h16, if_pos h16, List.append_assoc, List.append_assoc] at h
      exact head_inj (head_val hl (by omega) (by omega)) (by omega) (head_val hm (by omega) (by omega)) (by omega) h
    · rw [if_neg h16, if_neg h16] at h
      exact h
  have hu : unitB l i ++ x = unitB m i ++ y := by
    unfold linB at hb
    by_cases h4 : i % 4 = 0
    · rw [if_pos h4, if_pos h4, List.append_assoc, List.append_assoc] at hb
      exact head_inj (head_val hl (by omega) (by omega)) (by omega) (head_val hm (by omega) (by omega)) (by omega) hb
    · rw [if_neg h4, if_neg h4] at hb
      exact hb
  exact unit_inj hl hm h1 h2 hd hu
theorem lins_inj {l m : List Pst} (hl : ValidP l) (hm : ValidP m) (hn : l.length = m.length) {x y : List UInt8} : ∀ (k i : Nat), i + k = l.length → (∀ j, j < i → pAt l j = pAt m j) → cat (lin l) i k ++ x = cat (lin m) i k ++ y → (∀ j, j < l.length → pAt l j = pAt m j) ∧ x = y
  | 0, i, hi, hp, h => by
    refine ⟨fun j hj => hp j (by omega), ?_⟩
    simpa [cat] using h
  | k + 1, i, hi, hp, h => by
    rw [cat_cons, cat_cons, List.append_assoc, List.append_assoc] at h
    have hd : lastD l i = lastD m i := by
      unfold lastD
      split
      · rfl
      · rw [hp (i - 1) (by omega)]
    obtain ⟨h1, h2⟩ := lin_inj hl hm (by omega) (by omega) hd h
    exact lins_inj hl hm hn k (i + 1) (by omega) (fun j hj => by
      rcases Nat.lt_or_ge j i with h3 | h3
      · exact hp j h3
      · obtain rfl : j = i := by omega
        exact h1) h2
theorem pAt_ext {l m : List Pst} (hn : l.length = m.length) (h : ∀ j, j < l.length → pAt l j = pAt m j) : l = m := by
  refine List.ext_getElem hn fun i h1 h2 => ?_
  have := h i h1
  unfold pAt at this
  rw [List.getD_eq_getElem?_getD, List.getD_eq_getElem?_getD, List.getElem?_eq_getElem h1, List.getElem?_eq_getElem h2] at this
  exact this
/-- No valid postings' bytes begin others. -/
theorem putP_inj {l m : List Pst} (hl : ValidP l) (hm : ValidP m) {x y : List UInt8} (h : putP l ++ x = putP m ++ y) : l = m ∧ x = y := by
  unfold putP at h
  rw [List.append_assoc, List.append_assoc] at h
  have f1 := hl.few
  have f2 := hm.few
  obtain ⟨hn, h⟩ := putL_inj (by omega) (by omega) h
  rw [← hn] at h
  obtain ⟨h1, h2⟩ := lins_inj hl hm hn l.length 0 (by omega) (fun j hj => by omega) h
  exact ⟨pAt_ext hn h1, h2⟩
end Go.Proofs.Ytmcoooepoikgjaa
