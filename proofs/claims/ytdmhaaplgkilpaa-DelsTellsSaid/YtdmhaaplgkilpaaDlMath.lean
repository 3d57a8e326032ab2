/- What is deleted, in plain words: a number, and which; its bytes, there and back. -/
import Derived.Test.YtdmhaaplgkilpaaLMath2
import Derived.Test.YtdmhaaplgkilpaaFMath
namespace Go.Proofs.Ytdmhaaplgkilpaa

/-- So many documents, and which of them are deleted. -/
structure DSt where
  n : Nat
  f : Nat → Bool
def dHas (s : DSt) (i : Int) : Bool := decide (0 ≤ i ∧ i < (s.n : Int)) && s.f i.toNat
def dCan (s : DSt) (i : Int) : Bool := decide (0 ≤ i ∧ i < (s.n : Int)) && !s.f i.toNat
def dSet (s : DSt) (i : Int) : DSt := ⟨s.n, fun k => s.f k || decide ((k : Int) = i)⟩
/-- What Add leaves. -/
def dAdd (s : DSt) (i : Int) : DSt := if dCan s i then dSet s i else s
def dMany (s : DSt) : Nat := (List.range s.n).countP s.f
def dLive (s : DSt) : List Int := ((List.range s.n).filter fun k => !s.f k).map Int.ofNat
/-- The first k bits of the byte at place j. -/
def bitsN (s : DSt) (j : Nat) : Nat → Nat
  | 0 => 0
  | k + 1 => bitsN s j k + if 8 * j + k < s.n ∧ s.f (8 * j + k) = true then 2 ^ k else 0
theorem bitsN_lt (s : DSt) (j : Nat) : ∀ k, bitsN s j k < 2 ^ k
  | 0 => by simp [bitsN]
  | k + 1 => by
    have := bitsN_lt s j k
    rw [bitsN, Nat.pow_succ]
    split <;> omega
theorem bitsN_bit (s : DSt) (j : Nat) : ∀ k i, i < k → (bitsN s j k).testBit i = (decide (8 * j + i < s.n) && s.f (8 * j + i))
  | 0, i, h => by omega
  | k + 1, i, h => by
    have hlt := bitsN_lt s j k
    rw [bitsN]
    by_cases hi : i < k
    · rw [← bitsN_bit s j k i hi]
      split
      · rw [Nat.add_comm, Nat.testBit_two_pow_add_gt hi]
      · rw [Nat.add_zero]
    · have hik : i = k := by omega
      subst hik
      split
      · rename_i hc
        rw [Nat.add_comm, Nat.testBit_two_pow_add_eq, Nat.testBit_lt_two_pow hlt, decide_eq_true hc.1, hc.2]
        rfl
      · rename_i hc
        rw [Nat.add_zero, Nat.testBit_lt_two_pow hlt]
        rw [eq_comm, Bool.and_eq_false_iff, decide_eq_false_iff_not]
        by_cases h1 : 8 * j + i < s.n
        · exact .inr (by cases hf : s.f (8 * j + i) with
            | false => rfl
            | true => exact absurd ⟨h1, hf⟩ hc)
        · exact .inl h1
def bitsB (s : DSt) : List UInt8 := (List.range ((s.n + 7) / 8)).map fun j => UInt8.ofNat (bitsN s j 8)
theorem bitsB_len (s : DSt) : (bitsB s).length = (s.n + 7) / 8 := by unfold bitsB; simp
theorem bitsB_at (s : DSt) {j : Nat} (h : j < (s.n + 7) / 8) : (bitsB s)[j]? = some (UInt8.ofNat (bitsN s j 8)) := by
  unfold bitsB
  rw [List.getElem?_map, List.getElem?_range h]
  rfl
def dBody (s : DSt) : List UInt8 := putL s.n ++ bitsB s
def dPut (s : DSt) : List UInt8 := putF (dBody s)
/-- Is a bit of bytes set? -/
def bitOf (b : List UInt8) (i : Nat) : Bool := (b.getD (i / 8) 0).toNat.testBit (i % 8)
/-- The number that a frame begins with, and the reader behind it. -/
def dNum (x : List UInt8) : Int := (rInt ⟨x, 0, 0⟩ 64).1
def dRd (x : List UInt8) : Rd := (rInt ⟨x, 0, 0⟩ 64).2
/-- What Get makes of a frame. -/
def dRead (x : List UInt8) : Option DSt :=
  if (dRd x).e ≠ 0 ∨ (rLeft (dRd x) : Int) ≠ (dNum x + 7) / 8 then none
  else if ((List.range 64).any fun i => decide ((dNum x).toNat ≤ i) && bitOf (x.drop (dRd x).p) i) = true then none
  else some ⟨(dNum x).toNat, bitOf (x.drop (dRd x).p)⟩
/-- What Get makes of bytes. -/
def dGet (b : List UInt8) : Option DSt :=
  if (allF b).2 ≠ 0 ∨ (allF b).1.length ≠ 1 then none else dRead ((allF b).1.getD 0 [])
theorem bitOf_put (s : DSt) (i : Nat) (h : i < (s.n + 7) / 8 * 8) : bitOf (bitsB s) i = (decide (i < s.n) && s.f i) := by
  unfold bitOf
  have hj : i / 8 < (s.n + 7) / 8 := by omega
  rw [List.getD_eq_getElem?_getD, bitsB_at s hj, Option.getD_some]
  have h1 := bitsN_lt s (i / 8) 8
  rw [UInt8.toNat_ofNat_of_lt' (by simpa using h1), bitsN_bit s (i / 8) 8 (i % 8) (by omega), show 8 * (i / 8) + i % 8 = i by omega]
theorem dMany_live (s : DSt) : (dLive s).length + dMany s = s.n := by
  unfold dLive dMany
  rw [List.length_map, ← List.countP_eq_length_filter]
  have h := List.length_eq_countP_add_countP s.f (l := List.range s.n)
  rw [List.length_range] at h
  have e : (List.range s.n).countP (fun k => !s.f k) = (List.range s.n).countP (fun a => decide ¬ s.f a = true) := by
    congr 1
    funext k
    cases s.f k <;> simp
  rw [e]
  omega
theorem dAdd_n (s : DSt) (i : Int) : (dAdd s i).n = s.n := by unfold dAdd dSet; split <;> rfl
theorem dAdd_has (s : DSt) (i j : Int) : dHas (dAdd s i) j = (dHas s j || (dCan s i && decide (j = i))) := by
  unfold dAdd
  cases hc : dCan s i with
  | false => simp
  | true =>
    simp only [if_true, Bool.true_and]
    unfold dHas dSet
    simp only
    unfold dCan at hc
    rw [Bool.and_eq_true, decide_eq_true_iff] at hc
    by_cases hj : 0 ≤ j ∧ j < (s.n : Int)
    · rw [decide_eq_true hj, Bool.true_and, Bool.true_and]
      congr 1
      rw [decide_eq_decide]
      omega
    · rw [decide_eq_false hj, Bool.false_and, Bool.false_and, Bool.false_or, eq_comm, decide_eq_false_iff_not]
      intro e
      exact hj (e ▸ hc.1)
end Go.Proofs.Ytdmhaaplgkilpaa
