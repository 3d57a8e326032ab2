/- What is deleted: its bytes are read as it was; what is read has them as they stood; one more changes one bit. -/
import Derived.Test.YtdmhaaplgkilpaaDlMath
namespace Go.Proofs.Ytdmhaaplgkilpaa

theorem allAux_inv : ∀ (f : Nat) (c : List UInt8) (acc L : List (List UInt8)), allAux f c acc = (L, 0) → c.length ≤ f → ∃ R, L = acc ++ R ∧ c = R.flatMap putF ∧ Short R
  | 0, c, acc, L, h, hf => by
    simp only [allAux, Prod.mk.injEq, and_true] at h
    have : c = [] := List.eq_nil_of_length_eq_zero (by omega)
    subst h this
    exact ⟨[], by simp, rfl, fun x hx => by cases hx⟩
  | f + 1, c, acc, L, h, hf => by
    simp only [allAux] at h
    split at h
    · rename_i h0
      simp only [Prod.mk.injEq, and_true] at h
      have : c = [] := List.eq_nil_of_length_eq_zero h0
      subst h this
      exact ⟨[], by simp, rfl, fun x hx => by cases hx⟩
    · split at h
      · rename_i h1
        simp only [Prod.mk.injEq] at h
        exact absurd h.2 h1
      · rename_i h0 h1
        obtain ⟨x, m, e, hg⟩ : ∃ x m e, getF c = (x, m, e) := ⟨_, _, _, rfl⟩
        rw [hg] at h h1
        simp only at h h1
        have he : e = 0 := by omega
        subst he
        obtain ⟨g1, g2, g3, g4⟩ := getF_inv hg
        obtain ⟨R, r1, r2, r3⟩ := allAux_inv f (c.drop m) (acc ++ [x]) L h (by rw [List.length_drop]; omega)
        refine ⟨x :: R, by rw [r1]; simp, ?_, fun y hy => ?_⟩
        · rw [List.flatMap_cons, ← r2, ← g3, List.take_append_drop]
        · rcases List.mem_cons.1 hy with rfl | hy
          · exact g4
          · exact r3 y hy
theorem allF_inv {c : List UInt8} {L : List (List UInt8)} (h : allF c = (L, 0)) : c = L.flatMap putF ∧ Short L := by
  obtain ⟨R, h1, h2, h3⟩ := allAux_inv _ c [] L h (Nat.le_refl _)
  rw [List.nil_append] at h1
  subst h1
  exact ⟨h2, h3⟩
theorem dBody_len {s : DSt} (hn : s.n ≤ 64) : (dBody s).length ≤ 18 := by
  unfold dBody
  have := putL_len s.n (by omega)
  rw [List.length_append, bitsB_len]
  omega
/-- What a body's first number is, and what is left behind it. -/
theorem body_read {n : Nat} (hn : n ≤ 64) (r : List UInt8) : dNum (putL n ++ r) = (n : Int) ∧ dRd (putL n ++ r) = ⟨putL n ++ r, (putL n).length, 0⟩ := by
  have h : rInt ⟨putL n ++ r, 0, 0⟩ 64 = ((n : Int), ⟨putL n ++ r, (putL n).length, 0⟩) := by
    unfold rInt
    simp only
    rw [List.drop_zero, getL_put (by omega)]
    simp only
    rw [if_neg (by simp), if_neg (by simp), if_neg (by omega), Nat.zero_add]
  unfold dNum dRd
  rw [h]
  exact ⟨rfl, rfl⟩
theorem bitOf_out (b : List UInt8) (i : Nat) (h : b.length * 8 ≤ i) : bitOf b i = false := by
  unfold bitOf
  rw [List.getD_eq_getElem?_getD, List.getElem?_eq_none (by omega), Option.getD_none]
  simp
/-- What was put is read as it was. -/
theorem dRead_put {s : DSt} (hn : s.n ≤ 64) : dRead (dBody s) = some ⟨s.n, bitOf (bitsB s)⟩ := by
  obtain ⟨h1, h2⟩ := body_read hn (bitsB s)
  have hb := bitsB_len s
  unfold dRead
  rw [show dBody s = putL s.n ++ bitsB s from rfl, h1, h2]
  have hl : rLeft ⟨putL s.n ++ bitsB s, (putL s.n).length, 0⟩ = (s.n + 7) / 8 := by
    unfold rLeft
    rw [if_neg (by simp), List.length_append, hb]
    show (putL s.n).length + (s.n + 7) / 8 - (putL s.n).length = (s.n + 7) / 8
    omega
  rw [hl, if_neg (by simp), Int.toNat_natCast]
  simp only
  rw [List.drop_left, if_neg]
  rw [Bool.not_eq_true, List.any_eq_false]
  intro i hi
  rw [List.mem_range] at hi
  by_cases hin : s.n ≤ i
  · have : bitOf (bitsB s) i = false := by
      by_cases h8 : i < (s.n + 7) / 8 * 8
      · rw [bitOf_put s i h8, decide_eq_false (by omega)]
        rfl
      · exact bitOf_out _ _ (by rw [hb]; omega)
    simp [this]
  · simp [hin]
theorem dGet_put {s : DSt} (hn : s.n ≤ 64) : dGet (dPut s) = some ⟨s.n, bitOf (bitsB s)⟩ := by
  have h : allF (dPut s) = ([dBody s], 0) := by
    have := allF_put [dBody s] (fun x hx => by rw [List.mem_singleton.1 hx]; have := dBody_len hn; omega)
    simpa [dPut] using this
  unfold dGet
  rw [h]
  simp only
  rw [if_neg (by simp)]
  exact dRead_put hn
/-- Two states that are alike as far as there are documents. -/
def DSame (s t : DSt) : Prop := s.n = t.n ∧ ∀ i, i < s.n → s.f i = t.f i
theorem put_same (s : DSt) : DSame ⟨s.n, bitOf (bitsB s)⟩ s := ⟨rfl, fun i hi => by
  simp only at hi ⊢
  rw [bitOf_put s i (by omega), decide_eq_true hi, Bool.true_and]⟩
theorem DSame.bits {s t : DSt} (h : DSame s t) : bitsB s = bitsB t := by
  have key : ∀ j k, bitsN s j k = bitsN t j k := by
    intro j k
    induction k with
    | zero => rfl
    | succ k ih =>
      rw [bitsN, bitsN, ih, ← h.1]
      congr 1
      by_cases hk : 8 * j + k < s.n
      · rw [h.2 _ hk]
      · rw [if_neg (fun e => hk e.1), if_neg (fun e => hk e.1)]
  unfold bitsB
  rw [← h.1]
  exact List.map_congr_left fun j _ => by rw [key]
theorem DSame.put {s t : DSt} (h : DSame s t) : dPut s = dPut t := by
  unfold dPut dBody
  rw [h.bits, h.1]
theorem countP_same {f g : Nat → Bool} : ∀ n, (∀ i, i < n → f i = g i) → (List.range n).countP f = (List.range n).countP g ∧ (List.range n).filter (fun k => !f k) = (List.range n).filter fun k => !g k
  | n, h => ⟨List.countP_congr fun i hi => by rw [h i (List.mem_range.1 hi)], List.filter_congr fun i hi => by rw [h i (List.mem_range.1 hi)]⟩
theorem DSame.many {s t : DSt} (h : DSame s t) : dMany s = dMany t ∧ dLive s = dLive t := by
  obtain ⟨h1, h2⟩ := countP_same s.n h.2
  unfold dMany dLive
  rw [← h.1]
  exact ⟨h1, by rw [h2]⟩
/-- A byte is as its bits are. -/
theorem byte_bits {a b : UInt8} (h : ∀ k, k < 8 → a.toNat.testBit k = b.toNat.testBit k) : a = b := by
  have : a.toNat = b.toNat := by
    refine Nat.eq_of_testBit_eq fun k => ?_
    rcases Nat.lt_or_ge k 8 with hk | hk
    · exact h k hk
    · have h2 : 256 ≤ 2 ^ k := Nat.pow_le_pow_right (n := 2) (by omega) hk
      rw [Nat.testBit_lt_two_pow (by have := a.toNat_lt; omega), Nat.testBit_lt_two_pow (by have := b.toNat_lt; omega)]
  exact UInt8.toNat_inj.1 this
/-- What is read of any bytes has them as they stood. -/
theorem dGet_back {b : List UInt8} {s : DSt} (h : dGet b = some s) : dPut s = b ∧ s.n ≤ 64 := by
  unfold dGet at h
  split at h
  · cases h
  · rename_i h0
    obtain ⟨L, e, hA⟩ : ∃ L e, allF b = (L, e) := ⟨_, _, rfl⟩
    rw [hA] at h h0
    simp only at h h0
    have he : e = 0 := by omega
    subst he
    obtain ⟨x, rfl⟩ : ∃ x, L = [x] := by
      match L, h0 with
      | [], h0 => simp at h0
      | [x], _ => exact ⟨x, rfl⟩
      | _ :: _ :: _, h0 => simp at h0
    obtain ⟨hb, -⟩ := allF_inv hA
    rw [List.flatMap_singleton] at hb
    rw [show ([x] : List (List UInt8)).getD 0 [] = x from rfl] at h
    unfold dRead at h
    split at h
    · cases h
    · rename_i h1
      split at h
      · cases h
      · rename_i h2
        cases h
        have h1e : (dRd x).e = 0 := by omega
        have h1l : (rLeft (dRd x) : Int) = (dNum x + 7) / 8 := by omega
        -- the number
        obtain ⟨v, k, e, hg⟩ : ∃ v k e, getL x = (v, k, e) := ⟨_, _, _, rfl⟩
        have hr : rInt ⟨x, 0, 0⟩ 64 = if e ≠ 0 then (0, ⟨x, 0, e⟩) else if (64 : Int) < (v : Int) then (0, ⟨x, 0, 32⟩) else ((v : Int), ⟨x, k, 0⟩) := by
          unfold rInt
          simp only
          rw [List.drop_zero, hg]
          simp only [Nat.zero_add]
          rw [if_neg (by simp)]
          split
          · rfl
          · by_cases h6 : (64 : Int) < (v : Int)
            · rw [if_pos h6, if_pos (.inr h6)]
            · rw [if_neg h6, if_neg (by omega)]
        have hok : e = 0 ∧ ¬ (64 : Int) < (v : Int) := by
          unfold dRd at h1e
          rw [hr] at h1e
          split at h1e
          · rename_i h5; exact absurd h1e h5
          · rename_i h5
            split at h1e
            · cases h1e
            · rename_i h6; exact ⟨by omega, h6⟩
        obtain ⟨rfl, hv⟩ := hok
        rw [if_neg (by simp), if_neg hv] at hr
        have hN : dNum x = (v : Int) := by unfold dNum; rw [hr]
        have hR : dRd x = ⟨x, k, 0⟩ := by unfold dRd; rw [hr]
        obtain ⟨g1, g2, g3, g4, g5⟩ := getL_inv hg
        rw [hN, hR] at h1l h2
        rw [hN, hR, Int.toNat_natCast]
        rw [Int.toNat_natCast] at h2
        simp only at h2 ⊢
        have hrl : (x.drop k).length = (v + 7) / 8 := by
          rw [List.length_drop]
          unfold rLeft at h1l
          rw [if_neg (by simp)] at h1l
          simp only at h1l
          omega
        have hz : ∀ i, v ≤ i → bitOf (x.drop k) i = false := by
          intro i hi
          by_cases h64 : i < 64
          · rw [Bool.not_eq_true, List.any_eq_false] at h2
            have h3 := h2 i (List.mem_range.2 h64)
            rw [decide_eq_true hi, Bool.true_and] at h3
            simpa using h3
          · exact bitOf_out _ _ (by rw [hrl]; omega)
        have hbits : bitsB ⟨v, bitOf (x.drop k)⟩ = x.drop k := by
          refine List.ext_getElem? fun j => ?_
          by_cases hj : j < (v + 7) / 8
          · rw [bitsB_at _ hj, List.getElem?_eq_getElem (by rw [hrl]; exact hj)]
            refine congrArg some (byte_bits fun q hq => ?_)
            have hlt := bitsN_lt ⟨v, bitOf (x.drop k)⟩ j 8
            rw [UInt8.toNat_ofNat_of_lt' (by simpa using hlt), bitsN_bit _ _ _ _ hq]
            simp only
            have hbo : bitOf (x.drop k) (8 * j + q) = ((x.drop k)[j]'(by rw [hrl]; exact hj)).toNat.testBit q := by
              unfold bitOf
              rw [show (8 * j + q) / 8 = j by omega, show (8 * j + q) % 8 = q by omega, List.getD_eq_getElem?_getD, List.getElem?_eq_getElem (by rw [hrl]; exact hj), Option.getD_some]
            rw [hbo]
            by_cases hlt2 : 8 * j + q < v
            · rw [decide_eq_true hlt2, Bool.true_and]
            · have h9 := hz (8 * j + q) (by omega)
              rw [hbo] at h9
              rw [h9, Bool.and_false]
          · rw [List.getElem?_eq_none (by rw [bitsB_len]; exact Nat.le_of_not_lt hj), List.getElem?_eq_none (by rw [hrl]; omega)]
        refine ⟨?_, by omega⟩
        unfold dPut dBody
        rw [hbits, ← g4, List.take_append_drop, ← hb]
end Go.Proofs.Ytdmhaaplgkilpaa
