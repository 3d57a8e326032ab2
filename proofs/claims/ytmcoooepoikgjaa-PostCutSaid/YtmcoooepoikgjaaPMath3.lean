/- Are postings valid; the postings of bytes. -/
import Derived.Test.YtmcoooepoikgjaaPMath2
namespace Go.Proofs.Ytmcoooepoikgjaa

def okAt (l : List Pst) (i : Nat) : Bool := decide (0 ≤ (pAt l i).1) && (decide ((pAt l i).1 ≤ 4294967296) && (decide (lastD l i < (pAt l i).1) && (decide (0 < (pAt l i).2.length) && (rises (-1) (poss (pAt l i).2) && rises (-1) (atss (pAt l i).2)))))
def okUp (l : List Pst) : Nat → Bool
  | 0 => true
  | i + 1 => okUp l i && okAt l i
def manyUp (l : List Pst) : Nat → Bool
  | 0 => false
  | i + 1 => manyUp l i || decide (4096 < (pAt l i).2.length)
/-- The error of postings. -/
def checkP (l : List Pst) : Int := if 4096 < l.length then 2 else if manyUp l l.length then 2 else if okUp l l.length then 0 else 1
def FitP (l : List Pst) : Prop := ∀ x ∈ l, ∀ s ∈ x.2, s.1 ≤ 9223372036854775807 ∧ s.2 ≤ 9223372036854775807

theorem okUp_iff {l : List Pst} {n : Nat} : okUp l n = true ↔ ∀ i, i < n → okAt l i = true := by
  induction n with
  | zero => simp [okUp]
  | succ n ih =>
    rw [okUp, Bool.and_eq_true, ih]
    constructor
    · rintro ⟨h1, h2⟩ i hi
      rcases Nat.lt_or_ge i n with h | h
      · exact h1 i h
      · obtain rfl : i = n := by omega
        exact h2
    · exact fun h => ⟨fun i hi => h i (by omega), h n (by omega)⟩
theorem manyUp_iff {l : List Pst} {n : Nat} : manyUp l n = false ↔ ∀ i, i < n → (pAt l i).2.length ≤ 4096 := by
  induction n with
  | zero => simp [manyUp]
  | succ n ih =>
    rw [manyUp, Bool.or_eq_false_iff, ih, decide_eq_false_iff_not]
    constructor
    · rintro ⟨h1, h2⟩ i hi
      rcases Nat.lt_or_ge i n with h | h
      · exact h1 i h
      · obtain rfl : i = n := by omega
        omega
    · exact fun h => ⟨fun i hi => h i (by omega), by have := h n (by omega); omega⟩
theorem okAt_iff {l : List Pst} {i : Nat} : okAt l i = true ↔ 0 ≤ (pAt l i).1 ∧ (pAt l i).1 ≤ 4294967296 ∧ lastD l i < (pAt l i).1 ∧ 0 < (pAt l i).2.length ∧ rises (-1) (poss (pAt l i).2) = true ∧ rises (-1) (atss (pAt l i).2) = true := by
  unfold okAt
  simp only [Bool.and_eq_true, decide_eq_true_eq]
theorem pAt_of {l : List Pst} {x : Pst} (h : x ∈ l) : ∃ i, i < l.length ∧ pAt l i = x := by
  obtain ⟨i, hi, rfl⟩ := List.mem_iff_getElem.1 h
  exact ⟨i, hi, by unfold pAt; rw [List.getD_eq_getElem?_getD, List.getElem?_eq_getElem hi]; rfl⟩
theorem check_ok {l : List Pst} (hf : FitP l) : checkP l = 0 ↔ ValidP l := by
  unfold checkP
  constructor
  · intro h
    split at h
    · cases h
    · split at h
      · cases h
      · split at h
        · rename_i h1 h2 h3
          have h2 := manyUp_iff.1 (by simpa using h2)
          have h3 := okUp_iff.1 h3
          have at1 : ∀ x ∈ l, ∃ i, i < l.length ∧ pAt l i = x ∧ okAt l i = true := fun x hx => by
            obtain ⟨i, hi, e⟩ := pAt_of hx
            exact ⟨i, hi, e, h3 i hi⟩
          exact {
            few := by omega
            spots := fun x hx => by obtain ⟨i, hi, rfl, _⟩ := at1 x hx; exact h2 i hi
            some := fun x hx => by obtain ⟨i, hi, rfl, h⟩ := at1 x hx; exact (okAt_iff.1 h).2.2.2.1
            docs := fun x hx => by obtain ⟨i, hi, rfl, h⟩ := at1 x hx; exact ⟨(okAt_iff.1 h).1, (okAt_iff.1 h).2.1⟩
            up := fun i hi => (okAt_iff.1 (h3 i hi)).2.2.1
            pos := fun x hx => by obtain ⟨i, hi, rfl, h⟩ := at1 x hx; exact (okAt_iff.1 h).2.2.2.2.1
            at_ := fun x hx => by obtain ⟨i, hi, rfl, h⟩ := at1 x hx; exact (okAt_iff.1 h).2.2.2.2.2
            fit := hf }
        · cases h
  · intro h
    have h1 := h.few
    rw [if_neg (by omega), if_neg, if_pos]
    · exact okUp_iff.2 fun i hi => okAt_iff.2 ⟨(h.docs _ (pAt_mem hi)).1, (h.docs _ (pAt_mem hi)).2, h.up i hi, h.some _ (pAt_mem hi), h.pos _ (pAt_mem hi), h.at_ _ (pAt_mem hi)⟩
    · rw [manyUp_iff.2 fun i hi => h.spots _ (pAt_mem hi)]
      simp

def past1 (b : List UInt8) (n : Nat) : Nat := if (getL (b.drop n)).2.2 = 0 then n + (getL (b.drop n)).2.1 else n
/-- Behind two numbers, if they are there. -/
def pastB (b : List UInt8) (n : Nat) : Nat := past1 b (past1 b n)
/-- Where the numbers of a place begin. -/
def skipB (b : List UInt8) (i n : Nat) : Nat := if i % 4 = 0 then pastB b (if i % 16 = 0 then pastB b n else n) else (if i % 16 = 0 then pastB b n else n)
/-- One posting's numbers at a place: how far its Doc is, its spots, where it ends. -/
def rdOne (b : List UInt8) (n : Nat) : Option (Nat × List (Int × Int) × Nat) :=
  if (getL (b.drop n)).2.2 ≠ 0 ∨ 4294967296 < (getL (b.drop n)).1 then none
  else
    if (getR (b.drop (n + (getL (b.drop n)).2.1)) 4096).2.2 ≠ 0 then none
    else
      if (getR (b.drop (n + (getL (b.drop n)).2.1 + (getR (b.drop (n + (getL (b.drop n)).2.1)) 4096).2.1)) 4096).2.2 ≠ 0 ∨ (getR (b.drop (n + (getL (b.drop n)).2.1 + (getR (b.drop (n + (getL (b.drop n)).2.1)) 4096).2.1)) 4096).1.length ≠ (getR (b.drop (n + (getL (b.drop n)).2.1)) 4096).1.length then none
      else some ((getL (b.drop n)).1, (getR (b.drop (n + (getL (b.drop n)).2.1)) 4096).1.zip (getR (b.drop (n + (getL (b.drop n)).2.1 + (getR (b.drop (n + (getL (b.drop n)).2.1)) 4096).2.1)) 4096).1,
        n + (getL (b.drop n)).2.1 + (getR (b.drop (n + (getL (b.drop n)).2.1)) 4096).2.1 + (getR (b.drop (n + (getL (b.drop n)).2.1 + (getR (b.drop (n + (getL (b.drop n)).2.1)) 4096).2.1)) 4096).2.1)
/-- The first postings of bytes, and where they end. -/
def rdUp (b : List UInt8) (n0 : Nat) : Nat → Option (List Pst × Nat × Int)
  | 0 => some ([], n0, -1)
  | i + 1 => match rdUp b n0 i with
    | none => none
    | some (l, n, doc) => match rdOne b (skipB b i n) with
      | none => none
      | some (d, s, n2) => some (l ++ [(doc + d + 1, s)], n2, doc + d + 1)
def getP (b : List UInt8) : List Pst × Int :=
  if (getL b).2.2 ≠ 0 ∨ 4096 < (getL b).1 then ([], 3)
  else match rdUp b (getL b).2.1 (getL b).1 with
    | none => ([], 3)
    | some (l, _, _) => if checkP l = 0 ∧ putP l = b then (l, 0) else ([], 3)

theorem past_head {b : List UInt8} {n : Nat} {u v : Nat} {r : List UInt8} (hu : u < 2 ^ 64) (hv : v < 2 ^ 64) (h : b.drop n = putL u ++ putL v ++ r) : pastB b n = n + (putL u ++ putL v).length ∧ b.drop (pastB b n) = r := by
  have h1 : getL (b.drop n) = (u, (putL u).length, 0) := by rw [h, List.append_assoc]; exact getL_put hu _
  have e1 : past1 b n = n + (putL u).length := by unfold past1; rw [h1]; simp
  have h2 : b.drop (n + (putL u).length) = putL v ++ r := by rw [← List.drop_drop, h, List.append_assoc, getL_drop]
  have h3 : getL (b.drop (n + (putL u).length)) = (v, (putL v).length, 0) := by rw [h2]; exact getL_put hv _
  have e2 : pastB b n = n + (putL u).length + (putL v).length := by
    unfold pastB
    rw [e1]
    unfold past1
    rw [h3]
    simp
  refine ⟨by rw [e2, List.length_append]; omega, ?_⟩
  rw [e2, ← List.drop_drop, h2, getL_drop]
theorem zip_spots (s : List (Int × Int)) : (poss s).zip (atss s) = s := by
  induction s with
  | nil => rfl
  | cons x s ih =>
    simp only [poss, atss, List.map_cons, List.zip_cons_cons] at ih ⊢
    rw [ih]
theorem rdOne_put {l : List Pst} (hl : ValidP l) {i : Nat} (hi : i < l.length) {b : List UInt8} {n : Nat} {r : List UInt8} (h : b.drop n = unitB l i ++ r) :
    rdOne b n = some (((pAt l i).1 - lastD l i - 1).toNat, (pAt l i).2, n + (unitB l i).length) ∧ b.drop (n + (unitB l i).length) = r := by
  have q1 := hl.docs _ (pAt_mem hi)
  have w1 := hl.last (Nat.le_of_lt hi)
  have u1 := hl.up i hi
  have p1 := poss_le (hl.fit _ (pAt_mem hi))
  have n1 := poss_len (pAt l i).2
  have s1 := hl.spots _ (pAt_mem hi)
  have h0 := h
  obtain ⟨d, hd⟩ : ∃ d, d = ((pAt l i).1 - lastD l i - 1).toNat := ⟨_, rfl⟩
  obtain ⟨P, hP⟩ : ∃ P, P = poss (pAt l i).2 := ⟨_, rfl⟩
  obtain ⟨Q, hQ⟩ : ∃ Q, Q = atss (pAt l i).2 := ⟨_, rfl⟩
  have e0 : unitB l i = putL d ++ (putR P ++ putR Q) := by unfold unitB; rw [← hd, ← hP, ← hQ]
  rw [e0, List.append_assoc] at h
  have g1 : getL (b.drop n) = (d, (putL d).length, 0) := by rw [h]; exact getL_put (by omega) _
  have h2 : b.drop (n + (putL d).length) = putR P ++ (putR Q ++ r) := by rw [← List.drop_drop, h, getL_drop, List.append_assoc]
  have g2 : getR (b.drop (n + (putL d).length)) 4096 = (P, (putR P).length, 0) := by
    rw [h2]
    exact getR_put P (by rw [hP]; omega) (by rw [hP]; exact hl.pos _ (pAt_mem hi)) (by rw [hP]; exact p1.1) _ _ (by rw [hP]; omega)
  have h3 : b.drop (n + (putL d).length + (putR P).length) = putR Q ++ r := by rw [← List.drop_drop, h2, List.drop_left]
  have g3 : getR (b.drop (n + (putL d).length + (putR P).length)) 4096 = (Q, (putR Q).length, 0) := by
    rw [h3]
    exact getR_put Q (by rw [hQ]; omega) (by rw [hQ]; exact hl.at_ _ (pAt_mem hi)) (by rw [hQ]; exact p1.2) _ _ (by rw [hQ]; omega)
  constructor
  · unfold rdOne
    simp only [g1, g2, g3]
    rw [if_neg (by simp; omega), if_neg (by simp), if_neg (by rw [hP, hQ]; simp; omega), hP, hQ, zip_spots, ← hP, ← hQ, e0, ← hd]
    simp only [List.length_append, Option.some.injEq, Prod.mk.injEq, true_and]
    omega
  · rw [← List.drop_drop, h0, List.drop_left]
theorem skip_put {l : List Pst} (hl : ValidP l) {i : Nat} (hi : i < l.length) {b : List UInt8} {n : Nat} {r : List UInt8} (h : b.drop n = lin l i ++ r) : b.drop (skipB b i n) = unitB l i ++ r ∧ skipB b i n + (unitB l i).length = n + (lin l i).length := by
  have b1 := units_len hl (i := i) (k := min l.length (i + 4) - i) (by omega)
  have g1 := linBs_len hl (i := i) (k := min l.length (i + 16) - i) (by omega)
  obtain ⟨n1, hn1⟩ : ∃ n1, n1 = if i % 16 = 0 then pastB b n else n := ⟨_, rfl⟩
  have hb : b.drop n1 = linB l i ++ r ∧ n1 + (linB l i).length = n + (lin l i).length := by
    unfold lin at h ⊢
    by_cases h16 : i % 16 = 0
    · rw [if_pos h16] at h hn1 ⊢
      rw [List.append_assoc] at h
      obtain ⟨e1, e2⟩ := past_head (head_val hl (by omega) (by omega)) (by omega) h
      rw [hn1]
      refine ⟨e2, ?_⟩
      rw [e1]
      unfold groupB headB
      simp only [List.length_append]
      omega
    · rw [if_neg h16] at h hn1 ⊢
      rw [hn1]
      exact ⟨h, by simp⟩
  have hs : skipB b i n = if i % 4 = 0 then pastB b n1 else n1 := by rw [hn1]; rfl
  rw [hs]
  obtain ⟨hb1, hb2⟩ := hb
  unfold linB at hb1 hb2
  by_cases h4 : i % 4 = 0
  · rw [if_pos h4] at hb1 hb2 ⊢
    rw [List.append_assoc] at hb1
    obtain ⟨e1, e2⟩ := past_head (head_val hl (by omega) (by omega)) (by omega) hb1
    refine ⟨e2, ?_⟩
    rw [e1, ← hb2]
    unfold blockB headB
    simp only [List.length_append]
    omega
  · rw [if_neg h4] at hb1 hb2 ⊢
    exact ⟨hb1, by rw [← hb2]; simp⟩
theorem rdUp_put {l : List Pst} (hl : ValidP l) {b : List UInt8} {n0 : Nat} (hb : b.drop n0 = cat (lin l) 0 l.length) : ∀ i, i ≤ l.length → rdUp b n0 i = some (l.take i, n0 + (cat (lin l) 0 i).length, lastD l i)
  | 0, _ => by simp [rdUp, cat, lastD]
  | i + 1, hi => by
    have ih := rdUp_put hl hb i (by omega)
    have hx := pAt_mem (show i < l.length by omega)
    have hd : b.drop (n0 + (cat (lin l) 0 i).length) = lin l i ++ cat (lin l) (i + 1) (l.length - (i + 1)) := by
      have e := cat_add (lin l) 0 i (l.length - i)
      rw [show i + (l.length - i) = l.length by omega, Nat.zero_add] at e
      rw [← List.drop_drop, hb, e, List.drop_left, show l.length - i = (l.length - (i + 1)) + 1 by omega, cat_cons]
    obtain ⟨h1, h2⟩ := skip_put hl (by omega) hd
    obtain ⟨h3, _⟩ := rdOne_put hl (by omega) h1
    have u1 := hl.up i (by omega)
    unfold rdUp
    rw [ih]
    simp only [h3]
    have e1 : lastD l i + (((pAt l i).1 - lastD l i - 1).toNat : Int) + 1 = (pAt l i).1 := by omega
    have e2 : lastD l (i + 1) = (pAt l i).1 := by unfold lastD; rw [if_neg (by omega)]; rfl
    have e3 : l.take (i + 1) = l.take i ++ [pAt l i] := by
      rw [List.take_add_one]
      unfold pAt
      rw [List.getD_eq_getElem?_getD, List.getElem?_eq_getElem (by omega)]
      rfl
    rw [e1, e2, e3, h2, cat, List.length_append, Nat.zero_add]
    simp only [Option.some.injEq, Prod.mk.injEq]
    exact ⟨trivial, by omega, trivial⟩
theorem getP_put {l : List Pst} (hl : ValidP l) : getP (putP l) = (l, 0) := by
  have f1 := hl.few
  have h1 : getL (putP l) = (l.length, (putL l.length).length, 0) := by unfold putP; exact getL_put (by omega) _
  have h2 : (putP l).drop (putL l.length).length = cat (lin l) 0 l.length := by unfold putP; rw [getL_drop]
  unfold getP
  rw [h1]
  simp only
  rw [if_neg (by simp; omega), rdUp_put hl h2 l.length (Nat.le_refl _)]
  simp only [List.take_length]
  rw [if_pos ⟨(check_ok hl.fit).2 hl, trivial⟩]
theorem getP_some {b : List UInt8} (h : (getP b).2 = 0) : checkP (getP b).1 = 0 ∧ putP (getP b).1 = b := by
  unfold getP at h ⊢
  split at h
  · cases h
  · rename_i h1
    rw [if_neg h1]
    split at h
    · cases h
    · rename_i l n d h2
      split at h
      · rename_i h3
        rw [if_pos h3]
        exact h3
      · cases h
theorem getP_err (b : List UInt8) : (getP b).2 = 0 ∨ getP b = ([], 3) := by
  unfold getP
  split
  · exact .inr rfl
  · split
    · exact .inr rfl
    · split
      · exact .inl rfl
      · exact .inr rfl
end Go.Proofs.Ytmcoooepoikgjaa
