/- Bits of bytes counted; what Get asks, in the program's order. -/
import Derived.Test.YtdmhaaplgkilpaaDpMany
import Derived.Test.YtdmhaaplgkilpaaDpLive
namespace Go.Proofs.Ytdmhaaplgkilpaa

theorem popN_bits : ∀ x : Fin 256, popN 8 x.val = (List.range 8).countP fun i => x.val.testBit i := by decide +kernel
theorem popTo_count (l : List UInt8) : ∀ k, popTo l k = (List.range (8 * k)).countP (bitOf l)
  | 0 => rfl
  | k + 1 => by
    rw [popTo, popTo_count l k, show 8 * (k + 1) = 8 * k + 8 by omega, List.range_add, List.countP_append]
    congr 1
    have h := popN_bits ⟨(l.getD k 0).toNat, (l.getD k 0).toNat_lt⟩
    simp only at h
    rw [h, List.countP_map]
    refine List.countP_congr fun i hi => ?_
    have := List.mem_range.1 hi
    simp only [Function.comp]
    unfold bitOf
    rw [show (8 * k + i) / 8 = k by omega, show (8 * k + i) % 8 = i by omega]
theorem count_split (f : Nat → Bool) {n : Nat} (hn : n ≤ 64) : (List.range 64).countP f = (List.range n).countP f + ((List.range (64 - n)).map (n + ·)).countP f := by
  rw [show (64 : Nat) = n + (64 - n) by omega, List.range_add, List.countP_append, show n + (64 - n) - n = 64 - n by omega]
theorem live_many (f : Nat → Bool) (n : Nat) : (liveTo f n).length + (List.range n).countP f = n := dMany_live ⟨n, f⟩
theorem liveTo_is (s : DSt) : liveTo s.f s.n = dLive s := rfl
/-- What the program asks of the bits behind the last document. -/
theorem many_is {l : List UInt8} {n : Nat} (hn : n ≤ 64) : popTo l 8 + (liveTo (bitOf l) n).length = n ↔ ((List.range 64).any fun i => decide (n ≤ i) && bitOf l i) = false := by
  have h1 := live_many (bitOf l) n
  rw [popTo_count, show 8 * 8 = 64 from rfl, count_split _ hn]
  rw [List.any_eq_false]
  have h2 : ((List.range (64 - n)).map (n + ·)).countP (bitOf l) = 0 ↔ ∀ i, n ≤ i → i < 64 → ¬ bitOf l i = true := by
    rw [List.countP_eq_zero]
    constructor
    · intro h i h3 h4
      exact h i (List.mem_map.2 ⟨i - n, List.mem_range.2 (by omega), by omega⟩)
    · intro h i hi
      obtain ⟨j, hj, rfl⟩ := List.mem_map.1 hi
      have := List.mem_range.1 hj
      exact h _ (by omega) (by omega)
  constructor
  · intro h i hi
    have h3 := h2.1 (by omega) i
    rw [List.mem_range] at hi
    by_cases h4 : n ≤ i
    · rw [decide_eq_true h4, Bool.true_and]
      exact h3 h4 hi
    · rw [decide_eq_false h4]
      simp
  · intro h
    have := h2.2 fun i h3 h4 => by
      have h5 := h i (List.mem_range.2 h4)
      rw [decide_eq_true h3, Bool.true_and] at h5
      exact h5
    omega
/-- If no bit behind the last document is set, Many is how many are deleted. -/
theorem popTo_many {l : List UInt8} {n : Nat} {s : DSt} (hn : n ≤ 64) (h : ∀ i, i < 64 → bitOf l i = (decide (i < n) && s.f i)) (hs : s.n = n) : popTo l 8 = dMany s := by
  subst hs
  rw [popTo_count, show 8 * 8 = 64 from rfl, count_split _ hn]
  have h1 : ((List.range (64 - s.n)).map (s.n + ·)).countP (bitOf l) = 0 := by
    rw [List.countP_eq_zero]
    intro i hi
    obtain ⟨j, hj, rfl⟩ := List.mem_map.1 hi
    have := List.mem_range.1 hj
    rw [h _ (by omega), decide_eq_false (by omega)]
    simp
  rw [h1, Nat.add_zero]
  unfold dMany
  refine List.countP_congr fun i hi => ?_
  have := List.mem_range.1 hi
  rw [h i (by omega), decide_eq_true this, Bool.true_and]
theorem live_same {l : List UInt8} {s : DSt} (hn : s.n ≤ 64) (h : ∀ i, i < 64 → bitOf l i = (decide (i < s.n) && s.f i)) : liveTo (bitOf l) s.n = dLive s := by
  rw [← liveTo_is]
  unfold liveTo
  congr 1
  refine List.filter_congr fun i hi => ?_
  have := List.mem_range.1 hi
  rw [h i (by omega), decide_eq_true this, Bool.true_and]
/-- The bytes in which documents have bits. -/
theorem bits_same {l : List UInt8} {s : DSt} (hl : l.length = 8) (hn : s.n ≤ 64) (h : ∀ i, i < 64 → bitOf l i = (decide (i < s.n) && s.f i)) : l.take ((s.n + 7) / 8) = bitsB s := by
  refine List.ext_getElem? fun j => ?_
  by_cases hj : j < (s.n + 7) / 8
  · rw [bitsB_at _ hj, List.getElem?_take, if_pos hj, List.getElem?_eq_getElem (by omega)]
    refine congrArg some (byte_bits fun q hq => ?_)
    have hlt := bitsN_lt s j 8
    rw [UInt8.toNat_ofNat_of_lt' (by simpa using hlt), bitsN_bit _ _ _ _ hq, ← h (8 * j + q) (by omega)]
    unfold bitOf
    rw [show (8 * j + q) / 8 = j by omega, show (8 * j + q) % 8 = q by omega, List.getD_eq_getElem?_getD, List.getElem?_eq_getElem (by omega), Option.getD_some]
  · rw [List.getElem?_eq_none (by rw [List.length_take]; omega), List.getElem?_eq_none (by rw [bitsB_len]; omega)]
theorem getF_len' (c : List UInt8) : (getF c).1.length ≤ 262144 := by
  rcases getF_err c with h | h
  · exact (getF_step h).2.2
  · rw [h.1]; simp
/-- Get in the program's order: the frame first. -/
theorem dGet_frame {b x : List UInt8} {m : Nat} {e : Int} (hg : getF b = (x, m, e)) : dGet b = if e ≠ 0 ∨ m < b.length then none else dRead x := by
  by_cases hc : e ≠ 0 ∨ m < b.length
  · rw [if_pos hc]
    unfold dGet
    split
    · rfl
    · rename_i h0
      exfalso
      obtain ⟨L, e', hA⟩ : ∃ L e, allF b = (L, e) := ⟨_, _, rfl⟩
      rw [hA] at h0
      simp only at h0
      have he : e' = 0 := by omega
      subst he
      obtain ⟨y, rfl⟩ : ∃ y, L = [y] := by
        match L, h0 with
        | [], h0 => simp at h0
        | [x], _ => exact ⟨x, rfl⟩
        | _ :: _ :: _, h0 => simp at h0
      obtain ⟨hb, hs⟩ := allF_inv hA
      rw [List.flatMap_singleton] at hb
      have hp := getF_put y (hs y (List.mem_singleton.2 rfl)) []
      rw [List.append_nil, ← hb, hg] at hp
      simp only [Prod.mk.injEq] at hp
      obtain ⟨_, h2, h3⟩ := hp
      rcases hc with hc | hc
      · exact hc h3
      · omega
  · rw [if_neg hc]
    have he : e = 0 := by omega
    subst he
    obtain ⟨g1, g2, g3, g4⟩ := getF_inv hg
    have hm : m = b.length := by omega
    rw [hm, List.take_length] at g3
    have hA : allF b = ([x], 0) := by
      have := allF_put [x] (fun y hy => by rw [List.mem_singleton.1 hy]; exact g4)
      rw [List.flatMap_singleton, ← g3] at this
      exact this
    unfold dGet
    rw [hA]
    simp only
    rw [if_neg (by simp)]
    rfl
/-- What stands in the frame, in the program's order. -/
theorem dRead_is {x : List UInt8} {v k : Nat} {e : Int} (hg : getL x = (v, k, e)) :
    dRead x = if e ≠ 0 ∨ 64 < v then none else if x.length - k ≠ (v + 7) / 8 then none else if ((List.range 64).any fun i => decide (v ≤ i) && bitOf (x.drop k) i) = true then none else some ⟨v, bitOf (x.drop k)⟩ := by
  have hr : rInt ⟨x, 0, 0⟩ 64 = if e ≠ 0 then (0, ⟨x, 0, e⟩) else if (64 : Int) < (v : Int) then (0, ⟨x, 0, 32⟩) else ((v : Int), ⟨x, k, 0⟩) := by
    unfold rInt
    simp only
    rw [List.drop_zero, hg]
    simp only [Nat.zero_add]
    rw [if_neg (by simp)]
    split
    · rfl
    · by_cases h6 : (64 : Int) < (v : Int)
      · rw [if_pos h6, if_pos (.inr h6)]
      · rw [if_neg h6, if_neg (by omega)]
  have hN : dNum x = (rInt ⟨x, 0, 0⟩ 64).1 := rfl
  have hR : dRd x = (rInt ⟨x, 0, 0⟩ 64).2 := rfl
  rw [hr] at hN hR
  by_cases h5 : e ≠ 0
  · rw [if_pos (.inl h5)]
    rw [if_pos h5] at hR
    unfold dRead
    rw [hR, if_pos (.inl h5)]
  · rw [if_neg h5] at hN hR
    by_cases h6 : (64 : Int) < (v : Int)
    · rw [if_pos (.inr (by omega))]
      rw [if_pos h6] at hR
      unfold dRead
      rw [hR, if_pos (.inl (by simp))]
    · rw [if_neg h6] at hN hR
      rw [if_neg (by omega)]
      have hl : rLeft ⟨x, k, 0⟩ = x.length - k := by unfold rLeft; rw [if_neg (by simp)]
      unfold dRead
      rw [hR, hN, hl, Int.toNat_natCast]
      simp only
      by_cases h7 : x.length - k ≠ (v + 7) / 8
      · rw [if_pos h7, if_pos (.inr (by omega))]
      · rw [if_neg h7, if_neg (by omega)]
end Go.Proofs.Ytdmhaaplgkilpaa
