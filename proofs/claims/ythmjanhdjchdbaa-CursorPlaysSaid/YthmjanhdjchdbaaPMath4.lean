/- What is read of bytes: its bounds. Beginnings of postings, bytes that are cut, postings out of order. Postings out of order, with one twice, or without a spot. -/
import Derived.Test.YthmjanhdjchdbaaPMath
import Derived.Test.YthmjanhdjchdbaaPRef1
namespace Go.Proofs.Ythmjanhdjchdbaa

theorem rdUp_none {b : List UInt8} {n0 k : Nat} (h : rdUp b n0 k = none) : ∀ m, rdUp b n0 (k + m) = none
  | 0 => h
  | m + 1 => by
    have ih := rdUp_none h m
    rw [← Nat.add_assoc, rdUp, ih]
theorem getL_le {l : List UInt8} (h : (getL l).2.2 = 0) : (getL l).2.1 ≤ l.length ∧ (getL l).1 < 2 ^ 64 := by
  rcases hg : getL l with ⟨v, k, e⟩
  rw [hg] at h
  simp only at h
  subst h
  obtain ⟨_, _, h3, _, h5⟩ := getL_inv hg
  exact ⟨h3, h5⟩
theorem getR_le {l : List UInt8} {most : Int} (h : (getR l most).2.2 = 0) : (getR l most).2.1 ≤ l.length ∧ ((getR l most).1.length : Int) ≤ most ∧ rises (-1) (getR l most).1 = true ∧ ∀ x ∈ (getR l most).1, x ≤ 9223372036854775807 := by
  rcases hg : getR l most with ⟨v, k, e⟩
  rw [hg] at h
  simp only at h
  subst h
  obtain ⟨h1, h2, h3, _, h5⟩ := getR_inv hg
  exact ⟨h3, h5, h1, h2⟩
theorem past1_in {b : List UInt8} {n : Nat} (h : n ≤ b.length) : past1 b n ≤ b.length := by
  unfold past1
  split
  · rename_i h1
    have := (getL_le h1).1
    rw [List.length_drop] at this
    omega
  · exact h
theorem pastB_in {b : List UInt8} {n : Nat} (h : n ≤ b.length) : pastB b n ≤ b.length := past1_in (past1_in h)
theorem skipB_in {b : List UInt8} {i n : Nat} (h : n ≤ b.length) : skipB b i n ≤ b.length := by
  unfold skipB
  have h1 := pastB_in h
  split <;> split <;> first | exact pastB_in h1 | exact pastB_in h | exact h1 | exact h
theorem rises_ge {l : List Int} {p : Int} (h : rises p l = true) : ∀ y ∈ l, p < y := by
  induction l generalizing p with
  | nil => intro y hy; cases hy
  | cons x l ih =>
    simp only [rises, Bool.and_eq_true, decide_eq_true_eq] at h
    intro y hy
    rcases List.mem_cons.1 hy with rfl | hy
    · exact h.1
    · have := ih h.2 y hy; omega
theorem zip_in {a c : List Int} {x : Int × Int} (h : x ∈ a.zip c) : x.1 ∈ a ∧ x.2 ∈ c := ⟨(List.of_mem_zip h).1, (List.of_mem_zip h).2⟩
/-- What one step reads. -/
structure OneOk (b : List UInt8) (d : Nat) (s : List (Int × Int)) (n2 : Nat) : Prop where
  doc : d ≤ 4294967296
  end_ : n2 ≤ b.length
  few : s.length ≤ 4096
  fit : ∀ x ∈ s, 0 ≤ x.1 ∧ x.1 ≤ 9223372036854775807 ∧ 0 ≤ x.2 ∧ x.2 ≤ 9223372036854775807
theorem rdOne_ok {b : List UInt8} {n d n2 : Nat} {s : List (Int × Int)} (h : rdOne b n = some (d, s, n2)) (hn : n ≤ b.length) : OneOk b d s n2 := by
  unfold rdOne at h
  split at h
  · cases h
  · rename_i h1
    split at h
    · cases h
    · rename_i h2
      split at h
      · cases h
      · rename_i h3
        simp only [Option.some.injEq, Prod.mk.injEq] at h
        obtain ⟨e1, e2, e3⟩ := h
        have g1 := getL_le (Decidable.not_not.1 fun h => h1 (.inl h))
        have g2 := getR_le (Decidable.not_not.1 h2)
        have g3 := getR_le (Decidable.not_not.1 fun h => h3 (.inl h))
        rw [List.length_drop] at g1 g2 g3
        refine ⟨by omega, by omega, ?_, fun x hx => ?_⟩
        · rw [← e2, List.length_zip]
          omega
        · rw [← e2] at hx
          obtain ⟨q1, q2⟩ := zip_in hx
          have a1 := rises_ge g2.2.2.1 _ q1
          have a2 := rises_ge g3.2.2.1 _ q2
          exact ⟨by omega, g2.2.2.2 _ q1, by omega, g3.2.2.2 _ q2⟩
structure UpOk (b : List UInt8) (k : Nat) (l : List Pst) (n : Nat) (doc : Int) : Prop where
  len : l.length = k
  end_ : n ≤ b.length
  doc : -1 ≤ doc ∧ doc ≤ -1 + 4294967297 * (k : Int)
  docs : ∀ x ∈ l, -1 ≤ x.1 ∧ x.1 ≤ 4294967297 * (k : Int)
  few : ∀ x ∈ l, x.2.length ≤ 4096
  fit : ∀ x ∈ l, ∀ s ∈ x.2, 0 ≤ s.1 ∧ s.1 ≤ 9223372036854775807 ∧ 0 ≤ s.2 ∧ s.2 ≤ 9223372036854775807
theorem rdUp_ok {b : List UInt8} {n0 : Nat} (h0 : n0 ≤ b.length) : ∀ (k : Nat) (l : List Pst) (n : Nat) (doc : Int), rdUp b n0 k = some (l, n, doc) → UpOk b k l n doc
  | 0, l, n, doc, h => by
    simp only [rdUp, Option.some.injEq, Prod.mk.injEq] at h
    obtain ⟨rfl, rfl, rfl⟩ := h
    exact ⟨rfl, h0, by omega, fun x hx => (by cases hx), fun x hx => (by cases hx), fun x hx => (by cases hx)⟩
  | k + 1, l, n, doc, h => by
    rw [rdUp] at h
    split at h
    · cases h
    · rename_i l' n' doc' h1
      have ih := rdUp_ok h0 k l' n' doc' h1
      split at h
      · cases h
      · rename_i d s n2 h2
        simp only [Option.some.injEq, Prod.mk.injEq] at h
        obtain ⟨rfl, rfl, rfl⟩ := h
        have ho := rdOne_ok h2 (skipB_in ih.end_)
        have hd := ho.doc
        have i1 := ih.doc
        refine ⟨by simp [ih.len], ho.end_, by omega, fun x hx => ?_, fun x hx => ?_, fun x hx => ?_⟩
        · rcases List.mem_append.1 hx with h | h
          · have := ih.docs x h; omega
          · rw [List.mem_singleton.1 h]; simp only; omega
        · rcases List.mem_append.1 hx with h | h
          · exact ih.few x h
          · rw [List.mem_singleton.1 h]; exact ho.few
        · rcases List.mem_append.1 hx with h | h
          · exact ih.fit x h
          · rw [List.mem_singleton.1 h]; exact ho.fit
theorem UpOk.fitP {b : List UInt8} {k n : Nat} {l : List Pst} {doc : Int} (h : UpOk b k l n doc) : FitP l := fun x hx s hs => ⟨(h.fit x hx s hs).2.1, (h.fit x hx s hs).2.2.2⟩
end Go.Proofs.Ythmjanhdjchdbaa
namespace Go.Proofs.Ythmjanhdjchdbaa

theorem pAt_take {l : List Pst} {k i : Nat} (h : i < k) : pAt (l.take k) i = pAt l i := by
  unfold pAt
  rw [List.getD_eq_getElem?_getD, List.getD_eq_getElem?_getD, List.getElem?_take, if_pos h]
theorem lastD_take {l : List Pst} {k i : Nat} (h : i ≤ k) : lastD (l.take k) i = lastD l i := by
  unfold lastD
  split
  · rfl
  · rw [pAt_take (by omega)]
theorem ValidP.take {l : List Pst} (h : ValidP l) (k : Nat) : ValidP (l.take k) where
  few := by rw [List.length_take]; have := h.few; omega
  spots := fun x hx => h.spots x (List.mem_of_mem_take hx)
  some := fun x hx => h.some x (List.mem_of_mem_take hx)
  docs := fun x hx => h.docs x (List.mem_of_mem_take hx)
  up := fun i hi => by
    rw [List.length_take] at hi
    rw [lastD_take (by omega), pAt_take (by omega)]
    exact h.up i (by omega)
  pos := fun x hx => h.pos x (List.mem_of_mem_take hx)
  at_ := fun x hx => h.at_ x (List.mem_of_mem_take hx)
  fit := fun x hx => h.fit x (List.mem_of_mem_take hx)
theorem getP_fit {b : List UInt8} : FitP (getP b).1 := by
  intro x hx s hs
  unfold getP at hx
  split at hx
  · cases hx
  · rename_i hc
    split at hx
    · cases hx
    · rename_i l' n' d' hu
      have hg := getL_le (l := b) (Decidable.not_not.1 fun h => hc (.inl h))
      have hok := rdUp_ok hg.1 _ _ _ _ hu
      split at hx
      · exact ⟨(hok.fit x hx s hs).2.1, (hok.fit x hx s hs).2.2.2⟩
      · cases hx
theorem getP_cut {l : List Pst} (hl : ValidP l) {k : Nat} (hk : k < (putP l).length) : (getP ((putP l).take k)).2 = 3 := by
  rcases getP_err ((putP l).take k) with h | h
  · exfalso
    obtain ⟨h1, h2⟩ := getP_some h
    have hv := (check_ok getP_fit).1 h1
    have h4 : putP (getP ((putP l).take k)).1 ++ (putP l).drop k = putP l ++ [] := by rw [h2, List.take_append_drop, List.append_nil]
    have h5 := (putP_inj hv hl h4).2
    have h6 := congrArg List.length h5
    rw [List.length_drop] at h6
    simp at h6
    omega
  · rw [h]
theorem getP_more {l : List Pst} (hl : ValidP l) (y : UInt8) : (getP (putP l ++ [y])).2 = 3 := by
  rcases getP_err (putP l ++ [y]) with h | h
  · exfalso
    obtain ⟨h1, h2⟩ := getP_some h
    have hv := (check_ok getP_fit).1 h1
    have h4 : putP (getP (putP l ++ [y])).1 ++ [] = putP l ++ [y] := by rw [h2, List.append_nil]
    have h5 := (putP_inj hv hl h4).2
    cases h5
  · rw [h]

theorem docs_le {l : List Pst} (h : ValidP l) {i : Nat} : ∀ {k : Nat}, i + k < l.length → (pAt l i).1 ≤ (pAt l (i + k)).1
  | 0, _ => Int.le_refl _
  | k + 1, hk => by
    have h1 := docs_le h (i := i) (k := k) (by omega)
    have h2 := h.up (i + (k + 1)) hk
    unfold lastD at h2
    rw [if_neg (by omega), show i + (k + 1) - 1 = i + k by omega] at h2
    omega
theorem docs_mono {l : List Pst} (h : ValidP l) {i j : Nat} (hij : i ≤ j) (hj : j < l.length) : (pAt l i).1 ≤ (pAt l j).1 := by
  have := docs_le h (i := i) (k := j - i) (by omega)
  rwa [show i + (j - i) = j by omega] at this
theorem cat_len_le {f g : Nat → List UInt8} {a : Nat} : ∀ {k : Nat}, (∀ i, a ≤ i → i < a + k → (f i).length ≤ (g i).length) → (cat f a k).length ≤ (cat g a k).length
  | 0, _ => Nat.le_refl _
  | k + 1, h => by
    have h1 := cat_len_le (k := k) fun i h2 h3 => h i h2 (by omega)
    have h2 := h (a + k) (by omega) (by omega)
    simp only [cat, List.length_append]
    omega
theorem cat_len_mono (g : Nat → List UInt8) (a : Nat) {j k : Nat} (h : j ≤ k) : (cat g a j).length ≤ (cat g a k).length := by
  obtain ⟨d, rfl⟩ : ∃ d, k = j + d := ⟨k - j, by omega⟩
  rw [cat_add, List.length_append]
  omega
theorem head_short {l : List Pst} (h : ValidP l) {m f t t' : Nat} (hft : f < t') (htt : t' ≤ t) (htm : t' ≤ m) (ht : t ≤ l.length) {b b' : List UInt8} (hb : b'.length ≤ b.length) : (headB (l.take m) f t' b').length ≤ (headB l f t b).length := by
  unfold headB
  rw [pAt_take (by omega), lastD_take (by omega), List.length_append, List.length_append]
  have h1 := docs_mono h (i := t' - 1) (j := t - 1) (by omega) (by omega)
  have h2 := putL_mono ((pAt l (t' - 1)).1 - lastD l f - 1).toNat ((pAt l (t - 1)).1 - lastD l f - 1).toNat (by omega)
  have h3 := putL_mono b'.length b.length hb
  omega
theorem unit_take {l : List Pst} {m i : Nat} (hi : i < m) : unitB (l.take m) i = unitB l i := by
  unfold unitB
  rw [pAt_take hi, lastD_take (by omega)]
section
variable {l : List Pst} (h : ValidP l) {m : Nat} (hm : m ≤ l.length)
include h hm
theorem block_short {i : Nat} (hi : i < m) : (blockB (l.take m) i).length ≤ (blockB l i).length := by
  unfold blockB
  rw [List.length_take, Nat.min_eq_left hm]
  refine head_short h (by omega) (by omega) (by omega) (by omega) ?_
  rw [cat_congr (f := unitB (l.take m)) (g := unitB l) fun j h1 h2 => unit_take (by omega)]
  exact cat_len_mono _ _ (by omega)
theorem linB_short {i : Nat} (hi : i < m) : (linB (l.take m) i).length ≤ (linB l i).length := by
  unfold linB
  rw [unit_take hi]
  split
  · have := block_short h hm hi
    simp only [List.length_append]
    omega
  · exact Nat.le_refl _
theorem group_short {i : Nat} (hi : i < m) : (groupB (l.take m) i).length ≤ (groupB l i).length := by
  unfold groupB
  rw [List.length_take, Nat.min_eq_left hm]
  refine head_short h (by omega) (by omega) (by omega) (by omega) ?_
  exact Nat.le_trans (cat_len_le fun j h1 h2 => linB_short h hm (by omega)) (cat_len_mono _ _ (by omega))
theorem lin_short {i : Nat} (hi : i < m) : (lin (l.take m) i).length ≤ (lin l i).length := by
  unfold lin
  have := linB_short h hm hi
  split
  · have := group_short h hm hi
    simp only [List.length_append]
    omega
  · exact this
end
theorem lin_some (l : List Pst) (i : Nat) : 0 < (lin l i).length := by
  have h1 : 0 < (unitB l i).length := by
    unfold unitB
    have := putL_pos ((pAt l i).1 - lastD l i - 1).toNat
    rw [List.length_append]
    omega
  unfold lin linB
  simp only [List.length_append]
  omega
theorem putP_short {l : List Pst} (h : ValidP l) (h0 : 0 < l.length) : (putP (l.take (l.length - 1))).length < (putP l).length := by
  unfold putP
  rw [List.length_take, Nat.min_eq_left (by omega), List.length_append, List.length_append]
  have h1 := putL_mono (l.length - 1) l.length (by omega)
  have h2 := cat_len_le (f := lin (l.take (l.length - 1))) (g := lin l) (a := 0) (k := l.length - 1) fun i _ hi => lin_short h (by omega) (by omega)
  have h3 : cat (lin l) 0 l.length = cat (lin l) 0 (l.length - 1) ++ lin l (l.length - 1) := by
    have := cat_add (lin l) 0 (l.length - 1) 1
    rw [show l.length - 1 + 1 = l.length by omega] at this
    rw [this]
    simp [cat]
  have h4 := lin_some l (l.length - 1)
  rw [h3, List.length_append]
  omega
end Go.Proofs.Ythmjanhdjchdbaa
namespace Go.Proofs.Ythmjanhdjchdbaa

theorem pAt_left {a b : List Pst} {i : Nat} (h : i < a.length) : pAt (a ++ b) i = pAt a i := by
  unfold pAt
  rw [List.getD_eq_getElem?_getD, List.getD_eq_getElem?_getD, List.getElem?_append_left h]
theorem pAt_right {a b : List Pst} {i : Nat} (h : a.length ≤ i) : pAt (a ++ b) i = pAt b (i - a.length) := by
  unfold pAt
  rw [List.getD_eq_getElem?_getD, List.getD_eq_getElem?_getD, List.getElem?_append_right h]
theorem pAt_drop {l : List Pst} {k i : Nat} : pAt (l.drop k) i = pAt l (k + i) := by
  unfold pAt
  rw [List.getD_eq_getElem?_getD, List.getD_eq_getElem?_getD, List.getElem?_drop]
theorem many_no {l : List Pst} (h : ∀ x ∈ l, x.2.length ≤ 4096) : manyUp l l.length = false := manyUp_iff.2 fun _ hi => h _ (pAt_mem hi)
theorem okAt_no {l : List Pst} {i : Nat} (h : (pAt l i).1 ≤ lastD l i) : okAt l i = false := by
  rcases Bool.eq_false_or_eq_true (okAt l i) with h1 | h1
  · have := (okAt_iff.1 h1).2.2.1
    omega
  · exact h1
theorem check_twice {l : List Pst} (h : ValidP l) {k : Nat} (hk : k < l.length) : 4096 < (l.take (k + 1) ++ l.drop k).length ∨ checkP (l.take (k + 1) ++ l.drop k) = 1 := by
  obtain ⟨L, hL⟩ : ∃ L, L = l.take (k + 1) ++ l.drop k := ⟨_, rfl⟩
  have hlen : L.length = l.length + 1 := by rw [hL, List.length_append, List.length_take, List.length_drop]; omega
  have htl : (l.take (k + 1)).length = k + 1 := by rw [List.length_take]; omega
  have hmem : ∀ x ∈ L, x ∈ l := fun x hx => by
    rw [hL] at hx
    rcases List.mem_append.1 hx with h | h
    · exact List.mem_of_mem_take h
    · exact List.mem_of_mem_drop h
  have e1 : pAt L k = pAt l k := by rw [hL, pAt_left (by omega), pAt_take (by omega)]
  have e2 : pAt L (k + 1) = pAt l k := by rw [hL, pAt_right (by omega), htl, pAt_drop]; simp
  rw [← hL]
  rcases Nat.lt_or_ge 4096 L.length with h1 | h1
  · exact .inl h1
  · refine .inr (check_bad h1 (many_no fun x hx => h.spots x (hmem x hx)) (k := k + 1) (by omega) (okAt_no ?_))
    unfold lastD
    rw [if_neg (by omega), e2, Nat.add_sub_cancel, e1]
    exact Int.le_refl _
theorem check_none {l : List Pst} (h : ValidP l) {k : Nat} (hk : k < l.length) (d : Int) : checkP (l.set k (d, [])) = 1 := by
  refine check_bad (by rw [List.length_set]; exact h.few) ?_ (k := k) (by rw [List.length_set]; exact hk) ?_
  · refine many_no fun x hx => ?_
    rcases List.mem_or_eq_of_mem_set hx with h1 | rfl
    · exact h.spots x h1
    · simp
  · have e : pAt (l.set k (d, [])) k = (d, []) := by
      unfold pAt
      rw [List.getD_eq_getElem?_getD, List.getElem?_set_self hk]
      rfl
    rcases Bool.eq_false_or_eq_true (okAt (l.set k (d, [])) k) with h1 | h1
    · have := (okAt_iff.1 h1).2.2.2.1
      rw [e] at this
      simp at this
    · exact h1
theorem check_late {l : List Pst} (h : ValidP l) {k : Nat} (hk : k < l.length) (h0 : 0 < k) : checkP ([pAt l k] ++ l.take k) = 1 := by
  obtain ⟨L, hL⟩ : ∃ L, L = [pAt l k] ++ l.take k := ⟨_, rfl⟩
  have hlen : L.length = k + 1 := by rw [hL, List.length_append, List.length_take]; simp; omega
  have hmem : ∀ x ∈ L, x ∈ l := fun x hx => by
    rw [hL] at hx
    rcases List.mem_append.1 hx with h1 | h1
    · rw [List.mem_singleton.1 h1]; exact pAt_mem hk
    · exact List.mem_of_mem_take h1
  have e0 : pAt L 0 = pAt l k := by rw [hL]; rfl
  have e1 : pAt L 1 = pAt l 0 := by rw [hL, pAt_right (by simp), pAt_take (by simp; omega)]; rfl
  rw [← hL]
  refine check_bad (by have := h.few; omega) (many_no fun x hx => h.spots x (hmem x hx)) (k := 1) (by omega) (okAt_no ?_)
  unfold lastD
  rw [if_neg (by omega), e1, Nat.sub_self, e0]
  exact docs_mono h (Nat.zero_le _) hk
theorem check_first {l : List Pst} (hf : FitP l) (h : ValidP l) (hk : 0 < l.length) : checkP ([pAt l 0] ++ l.take 0) = 0 := by
  have e : [pAt l 0] ++ l.take 0 = l.take 1 := by
    cases l with
    | nil => simp at hk
    | cons x r => simp [pAt]
  rw [e]
  exact (check_ok (fun x hx => hf x (List.mem_of_mem_take hx))).2 (h.take 1)
end Go.Proofs.Ythmjanhdjchdbaa
