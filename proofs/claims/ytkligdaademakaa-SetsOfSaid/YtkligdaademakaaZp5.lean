/- Postings as bytes, and what bytes are. Postings as bytes: how long; two alike; which there are. Are postings valid; the postings of bytes. A cursor over postings: where it stands, and what was read. Plain words of postings. Words of Put, the document's and the program's. What is read of bytes: its bounds. Beginnings of postings, bytes that are cut, postings out of order. Postings out of order, with one twice, or without a spot. Where Skips stand. -/
import Derived.Test.YtkligdaademakaaLMath2
import Derived.Test.YtkligdaademakaaZp6
import Derived.Test.YtkligdaademakaaKInts
import Derived.Test.YtkligdaademakaaLWordsB
namespace Go.Proofs.Ytkligdaademakaa

abbrev Pst := Int × List (Int × Int)
def poss (s : List (Int × Int)) : List Int := s.map (·.1)
def atss (s : List (Int × Int)) : List Int := s.map (·.2)
def pAt (l : List Pst) (i : Nat) : Pst := l.getD i (0, [])
/-- The Doc ahead of a place. -/
def lastD (l : List Pst) (i : Nat) : Int := if i = 0 then -1 else (pAt l (i - 1)).1
def unitB (l : List Pst) (i : Nat) : List UInt8 := putL ((pAt l i).1 - lastD l i - 1).toNat ++ (putR (poss (pAt l i).2) ++ putR (atss (pAt l i).2))
/-- The bytes of k places from a on. -/
def cat (f : Nat → List UInt8) (a : Nat) : Nat → List UInt8
  | 0 => []
  | k + 1 => cat f a k ++ f (a + k)
def headB (l : List Pst) (f t : Nat) (b : List UInt8) : List UInt8 := putL ((pAt l (t - 1)).1 - lastD l f - 1).toNat ++ putL b.length
def blockB (l : List Pst) (i : Nat) : List UInt8 := headB l i (min l.length (i + 4)) (cat (unitB l) i (min l.length (i + 4) - i))
def linB (l : List Pst) (i : Nat) : List UInt8 := (if i % 4 = 0 then blockB l i else []) ++ unitB l i
def groupB (l : List Pst) (i : Nat) : List UInt8 := headB l i (min l.length (i + 16)) (cat (linB l) i (min l.length (i + 16) - i))
def lin (l : List Pst) (i : Nat) : List UInt8 := (if i % 16 = 0 then groupB l i else []) ++ linB l i
def putP (l : List Pst) : List UInt8 := putL l.length ++ cat (lin l) 0 l.length

theorem cat_cons (f : Nat → List UInt8) (a k : Nat) : cat f a (k + 1) = f a ++ cat f (a + 1) k := by
  induction k with
  | zero => simp [cat]
  | succ k ih =>
    rw [cat, ih, cat, List.append_assoc, show a + (k + 1) = a + 1 + k by omega]
theorem cat_add (f : Nat → List UInt8) (a j k : Nat) : cat f a (j + k) = cat f a j ++ cat f (a + j) k := by
  induction k with
  | zero => simp [cat]
  | succ k ih => rw [← Nat.add_assoc, cat, ih, cat, List.append_assoc, show a + (j + k) = a + j + k by omega]
theorem cat_congr {f g : Nat → List UInt8} {a k : Nat} (h : ∀ i, a ≤ i → i < a + k → f i = g i) : cat f a k = cat g a k := by
  induction k with
  | zero => rfl
  | succ k ih => rw [cat, cat, ih fun i h1 h2 => h i h1 (by omega), h (a + k) (by omega) (by omega)]
theorem len_cat (f : Nat → List UInt8) (a k m : Nat) (h : ∀ i, a ≤ i → i < a + k → (f i).length ≤ m) : (cat f a k).length ≤ m * k := by
  induction k with
  | zero => simp [cat]
  | succ k ih =>
    have h1 := ih fun i h2 h3 => h i h2 (by omega)
    have h2 := h (a + k) (by omega) (by omega)
    rw [cat, List.length_append, Nat.mul_succ]
    omega
/-- A block's bytes with its head are its places' bytes, the first one with the head. -/
theorem cat_block (l : List Pst) {i k : Nat} (hi : i % 4 = 0) (hk : 0 < k) (hk4 : k ≤ 4) : cat (linB l) i k = blockB l i ++ cat (unitB l) i k := by
  obtain ⟨k, rfl⟩ : ∃ q, k = q + 1 := ⟨k - 1, by omega⟩
  rw [cat_cons, cat_cons, linB, if_pos hi, List.append_assoc]
  congr 2
  exact cat_congr fun j h1 h2 => by rw [linB, if_neg (by omega)]; rfl
theorem cat_group (l : List Pst) {i k : Nat} (hi : i % 16 = 0) (hk : 0 < k) (hk4 : k ≤ 16) : cat (lin l) i k = groupB l i ++ cat (linB l) i k := by
  obtain ⟨k, rfl⟩ : ∃ q, k = q + 1 := ⟨k - 1, by omega⟩
  rw [cat_cons, cat_cons, lin, if_pos hi, List.append_assoc]
  congr 2
  exact cat_congr fun j h1 h2 => by rw [lin, if_neg (by omega)]; rfl

/-- Valid postings. -/
structure ValidP (l : List Pst) : Prop where
  few : l.length ≤ 4096
  spots : ∀ x ∈ l, x.2.length ≤ 4096
  some : ∀ x ∈ l, 0 < x.2.length
  docs : ∀ x ∈ l, 0 ≤ x.1 ∧ x.1 ≤ 4294967296
  up : ∀ i, i < l.length → lastD l i < (pAt l i).1
  pos : ∀ x ∈ l, rises (-1) (poss x.2) = true
  at_ : ∀ x ∈ l, rises (-1) (atss x.2) = true
  fit : ∀ x ∈ l, ∀ s ∈ x.2, s.1 ≤ 9223372036854775807 ∧ s.2 ≤ 9223372036854775807
theorem pAt_mem {l : List Pst} {i : Nat} (h : i < l.length) : pAt l i ∈ l := by
  unfold pAt
  rw [List.getD_eq_getElem?_getD, List.getElem?_eq_getElem h]
  exact List.getElem_mem h
theorem ValidP.last {l : List Pst} (h : ValidP l) {i : Nat} (hi : i ≤ l.length) : -1 ≤ lastD l i ∧ lastD l i ≤ 4294967296 := by
  unfold lastD
  split
  · omega
  · have := h.docs _ (pAt_mem (show i - 1 < l.length by omega))
    omega
theorem poss_le {s : List (Int × Int)} (h : ∀ x ∈ s, x.1 ≤ 9223372036854775807 ∧ x.2 ≤ 9223372036854775807) : (∀ y ∈ poss s, y ≤ 9223372036854775807) ∧ ∀ y ∈ atss s, y ≤ 9223372036854775807 := by
  constructor
  · intro y hy
    obtain ⟨x, hx, rfl⟩ := List.mem_map.1 hy
    exact (h x hx).1
  · intro y hy
    obtain ⟨x, hx, rfl⟩ := List.mem_map.1 hy
    exact (h x hx).2
theorem poss_len (s : List (Int × Int)) : (poss s).length = s.length ∧ (atss s).length = s.length := by simp [poss, atss]
theorem spots_eq {s t : List (Int × Int)} (h1 : poss s = poss t) (h2 : atss s = atss t) : s = t := by
  induction s generalizing t with
  | nil => cases t with
    | nil => rfl
    | cons y t => simp [poss] at h1
  | cons x s ih =>
    cases t with
    | nil => simp [poss] at h1
    | cons y t =>
      simp only [poss, atss, List.map_cons, List.cons.injEq] at h1 h2
      rw [ih h1.2 h2.2, Prod.ext h1.1 h2.1]
theorem putR_inj {a b : List Int} (ha : a.length ≤ 4096) (hb : b.length ≤ 4096) (ra : rises (-1) a = true) (rb : rises (-1) b = true) (fa : ∀ x ∈ a, x ≤ 9223372036854775807) (fb : ∀ x ∈ b, x ≤ 9223372036854775807) {x y : List UInt8} (h : putR a ++ x = putR b ++ y) : a = b ∧ x = y := by
  have h1 := getR_put a (by omega) ra fa x 4096 (by omega)
  have h2 := getR_put b (by omega) rb fb y 4096 (by omega)
  rw [h, h2] at h1
  have h3 := congrArg Prod.fst h1
  simp only at h3
  subst h3
  exact ⟨rfl, List.append_cancel_left h⟩
/-- Of one place: what comes ahead of what. -/
theorem unit_inj {l m : List Pst} (hl : ValidP l) (hm : ValidP m) {i : Nat} (h1 : i < l.length) (h2 : i < m.length) (hd : lastD l i = lastD m i) {x y : List UInt8} (h : unitB l i ++ x = unitB m i ++ y) : pAt l i = pAt m i ∧ x = y := by
  unfold unitB at h
  simp only [List.append_assoc] at h
  have q1 := hl.docs _ (pAt_mem h1)
  have q2 := hm.docs _ (pAt_mem h2)
  have u1 := hl.up i h1
  have u2 := hm.up i h2
  have w1 := hl.last (Nat.le_of_lt h1)
  have w2 := hm.last (Nat.le_of_lt h2)
  obtain ⟨e1, h⟩ := putL_inj (by omega) (by omega) h
  have p1 := poss_le (hl.fit _ (pAt_mem h1))
  have p2 := poss_le (hm.fit _ (pAt_mem h2))
  have s1 := hl.spots _ (pAt_mem h1)
  have s2 := hm.spots _ (pAt_mem h2)
  have n1 := poss_len (pAt l i).2
  have n2 := poss_len (pAt m i).2
  obtain ⟨e2, h⟩ := putR_inj (by omega) (by omega) (hl.pos _ (pAt_mem h1)) (hm.pos _ (pAt_mem h2)) p1.1 p2.1 h
  obtain ⟨e3, h⟩ := putR_inj (by omega) (by omega) (hl.at_ _ (pAt_mem h1)) (hm.at_ _ (pAt_mem h2)) p1.2 p2.2 h
  exact ⟨Prod.ext (by omega) (spots_eq e2 e3), h⟩
theorem head_val {l : List Pst} (hl : ValidP l) {f t : Nat} (ht : t ≤ l.length) (hf : f ≤ l.length) : ((pAt l (t - 1)).1 - lastD l f - 1).toNat < 2 ^ 64 := by
  have w1 := hl.last hf
  rcases Nat.eq_zero_or_pos l.length with h0 | h0
  · have : l = [] := List.eq_nil_of_length_eq_zero h0
    subst this
    simp [pAt]
    omega
  · have := hl.docs _ (pAt_mem (show t - 1 < l.length by omega))
    omega
end Go.Proofs.Ytkligdaademakaa
namespace Go.Proofs.Ytkligdaademakaa

theorem putGapsR_len (l : List Int) : ∀ p : Int, -1 ≤ p → rises p l = true → (∀ x ∈ l, x ≤ 9223372036854775807) → (putGaps (gaps p l)).length ≤ 10 * l.length := by
  induction l with
  | nil => intro p _ _ _; simp [gaps, putGaps]
  | cons x l ih =>
    intro p hp hr h
    simp only [rises, Bool.and_eq_true, decide_eq_true_eq] at hr
    have hx := h x (List.mem_cons_self ..)
    have h1 := putL_len (x - p - 1).toNat (by omega)
    have := ih x (by omega) hr.2 fun y hy => h y (List.mem_cons_of_mem _ hy)
    simp only [gaps, putGaps, List.flatMap_cons, List.length_append, List.length_cons] at this ⊢
    omega
theorem putR_len {l : List Int} (hn : l.length ≤ 4096) (hr : rises (-1) l = true) (h : ∀ x ∈ l, x ≤ 9223372036854775807) : (putR l).length ≤ 40970 := by
  have h1 := putGapsR_len l (-1) (by omega) hr h
  have h2 := putL_len l.length (by omega)
  unfold putR
  rw [List.length_append]
  omega
theorem unit_len {l : List Pst} (hl : ValidP l) {i : Nat} (hi : i < l.length) : (unitB l i).length ≤ 90000 := by
  have p1 := poss_le (hl.fit _ (pAt_mem hi))
  have n1 := poss_len (pAt l i).2
  have s1 := hl.spots _ (pAt_mem hi)
  have h1 := putR_len (by omega) (hl.pos _ (pAt_mem hi)) p1.1
  have h2 := putR_len (by omega) (hl.at_ _ (pAt_mem hi)) p1.2
  have q1 := hl.docs _ (pAt_mem hi)
  have w1 := hl.last (Nat.le_of_lt hi)
  have h3 := putL_len ((pAt l i).1 - lastD l i - 1).toNat (by omega)
  unfold unitB
  simp only [List.length_append]
  omega
theorem units_len {l : List Pst} (hl : ValidP l) {i k : Nat} (h : i + k ≤ l.length) : (cat (unitB l) i k).length ≤ 90000 * k := len_cat _ _ _ _ fun j h1 h2 => unit_len hl (by omega)
theorem block_len {l : List Pst} (hl : ValidP l) {i : Nat} (hi : i < l.length) : (blockB l i).length ≤ 20 := by
  have h1 := units_len hl (i := i) (k := min l.length (i + 4) - i) (by omega)
  unfold blockB headB
  have h2 := putL_len _ (head_val hl (f := i) (t := min l.length (i + 4)) (by omega) (by omega))
  have h3 := putL_len (cat (unitB l) i (min l.length (i + 4) - i)).length (by omega)
  rw [List.length_append]
  omega
theorem linB_len {l : List Pst} (hl : ValidP l) {i : Nat} (hi : i < l.length) : (linB l i).length ≤ 90020 := by
  have h1 := unit_len hl hi
  have h2 := block_len hl hi
  unfold linB
  rw [List.length_append]
  split
  · omega
  · simp; omega
theorem linBs_len {l : List Pst} (hl : ValidP l) {i k : Nat} (h : i + k ≤ l.length) : (cat (linB l) i k).length ≤ 90020 * k := len_cat _ _ _ _ fun j h1 h2 => linB_len hl (by omega)
theorem group_len {l : List Pst} (hl : ValidP l) {i : Nat} (hi : i < l.length) : (groupB l i).length ≤ 20 := by
  have h1 := linBs_len hl (i := i) (k := min l.length (i + 16) - i) (by omega)
  unfold groupB headB
  have h2 := putL_len _ (head_val hl (f := i) (t := min l.length (i + 16)) (by omega) (by omega))
  have h3 := putL_len (cat (linB l) i (min l.length (i + 16) - i)).length (by omega)
  rw [List.length_append]
  omega
theorem lin_len {l : List Pst} (hl : ValidP l) {i : Nat} (hi : i < l.length) : (lin l i).length ≤ 90040 := by
  have h1 := linB_len hl hi
  have h2 := group_len hl hi
  unfold lin
  rw [List.length_append]
  split
  · omega
  · simp; omega
theorem lins_len {l : List Pst} (hl : ValidP l) {i k : Nat} (h : i + k ≤ l.length) : (cat (lin l) i k).length ≤ 90040 * k := len_cat _ _ _ _ fun j h1 h2 => lin_len hl (by omega)
theorem putP_len {l : List Pst} (hl : ValidP l) : (putP l).length ≤ 368803860 := by
  have h1 := lins_len hl (i := 0) (k := l.length) (by omega)
  have h2 := hl.few
  have h3 := putL_len l.length (by omega)
  unfold putP
  rw [List.length_append]
  omega

/-- Two heads: whatever they say, what comes behind both is alike. -/
theorem head_inj {a b c d : Nat} (ha : a < 2 ^ 64) (hb : b < 2 ^ 64) (hc : c < 2 ^ 64) (hd : d < 2 ^ 64) {x y : List UInt8} (h : putL a ++ putL b ++ x = putL c ++ putL d ++ y) : x = y := by
  rw [List.append_assoc, List.append_assoc] at h
  obtain ⟨_, h⟩ := putL_inj ha hc h
  exact (putL_inj hb hd h).2
theorem lin_inj {l m : List Pst} (hl : ValidP l) (hm : ValidP m) {i : Nat} (h1 : i < l.length) (h2 : i < m.length) (hd : lastD l i = lastD m i) {x y : List UInt8} (h : lin l i ++ x = lin m i ++ y) : pAt l i = pAt m i ∧ x = y := by
  have b1 := units_len hl (i := i) (k := min l.length (i + 4) - i) (by omega)
  have b2 := units_len hm (i := i) (k := min m.length (i + 4) - i) (by omega)
  have g1 := linBs_len hl (i := i) (k := min l.length (i + 16) - i) (by omega)
  have g2 := linBs_len hm (i := i) (k := min m.length (i + 16) - i) (by omega)
  have hb : linB l i ++ x = linB m i ++ y := by
    unfold lin at h
    by_cases h16 : i % 16 = 0
    · rw [if_pos h16, if_pos h16, List.append_assoc, List.append_assoc] at h
      exact head_inj (head_val hl (by omega) (by omega)) (by omega) (head_val hm (by omega) (by omega)) (by omega) h
    · rw [if_neg h16, if_neg h16] at h
      exact h
  have hu : unitB l i ++ x = unitB m i ++ y := by
    unfold linB at hb
    by_cases h4 : i % 4 = 0
    · rw [if_pos h4, if_pos h4, List.append_assoc, List.append_assoc] at hb
      exact head_inj (head_val hl (by omega) (by omega)) (by omega) (head_val hm (by omega) (by omega)) (by omega) hb
    · rw [if_neg h4, if_neg h4] at hb
      exact hb
  exact unit_inj hl hm h1 h2 hd hu
theorem lins_inj {l m : List Pst} (hl : ValidP l) (hm : ValidP m) (hn : l.length = m.length) {x y : List UInt8} : ∀ (k i : Nat), i + k = l.length → (∀ j, j < i → pAt l j = pAt m j) → cat (lin l) i k ++ x = cat (lin m) i k ++ y → (∀ j, j < l.length → pAt l j = pAt m j) ∧ x = y
  | 0, i, hi, hp, h => by
    refine ⟨fun j hj => hp j (by omega), ?_⟩
    simpa [cat] using h
  | k + 1, i, hi, hp, h => by
    rw [cat_cons, cat_cons, List.append_assoc, List.append_assoc] at h
    have hd : lastD l i = lastD m i := by
      unfold lastD
      split
      · rfl
      · rw [hp (i - 1) (by omega)]
    obtain ⟨h1, h2⟩ := lin_inj hl hm (by omega) (by omega) hd h
    exact lins_inj hl hm hn k (i + 1) (by omega) (fun j hj => by
      rcases Nat.lt_or_ge j i with h3 | h3
      · exact hp j h3
      · obtain rfl : j = i := by omega
        exact h1) h2
theorem pAt_ext {l m : List Pst} (hn : l.length = m.length) (h : ∀ j, j < l.length → pAt l j = pAt m j) : l = m := by
  refine List.ext_getElem hn fun i h1 h2 => ?_
  have := h i h1
  unfold pAt at this
  rw [List.getD_eq_getElem?_getD, List.getD_eq_getElem?_getD, List.getElem?_eq_getElem h1, List.getElem?_eq_getElem h2] at this
  exact this
/-- No valid postings' bytes begin others. -/
theorem putP_inj {l m : List Pst} (hl : ValidP l) (hm : ValidP m) {x y : List UInt8} (h : putP l ++ x = putP m ++ y) : l = m ∧ x = y := by
  unfold putP at h
  rw [List.append_assoc, List.append_assoc] at h
  have f1 := hl.few
  have f2 := hm.few
  obtain ⟨hn, h⟩ := putL_inj (by omega) (by omega) h
  rw [← hn] at h
  obtain ⟨h1, h2⟩ := lins_inj hl hm hn l.length 0 (by omega) (fun j hj => by omega) h
  exact ⟨pAt_ext hn h1, h2⟩
end Go.Proofs.Ytkligdaademakaa
namespace Go.Proofs.Ytkligdaademakaa

def okAt (l : List Pst) (i : Nat) : Bool := decide (0 ≤ (pAt l i).1) && (decide ((pAt l i).1 ≤ 4294967296) && (decide (lastD l i < (pAt l i).1) && (decide (0 < (pAt l i).2.length) && (rises (-1) (poss (pAt l i).2) && rises (-1) (atss (pAt l i).2)))))
def okUp (l : List Pst) : Nat → Bool
  | 0 => true
  | i + 1 => okUp l i && okAt l i
def manyUp (l : List Pst) : Nat → Bool
  | 0 => false
  | i + 1 => manyUp l i || decide (4096 < (pAt l i).2.length)
/-- The error of postings. -/
def checkP (l : List Pst) : Int := if 4096 < l.length then 2 else if manyUp l l.length then 2 else if okUp l l.length then 0 else 1
def FitP (l : List Pst) : Prop := ∀ x ∈ l, ∀ s ∈ x.2, s.1 ≤ 9223372036854775807 ∧ s.2 ≤ 9223372036854775807

theorem okUp_iff {l : List Pst} {n : Nat} : okUp l n = true ↔ ∀ i, i < n → okAt l i = true := by
  induction n with
  | zero => simp [okUp]
  | succ n ih =>
    rw [okUp, Bool.and_eq_true, ih]
    constructor
    · rintro ⟨h1, h2⟩ i hi
      rcases Nat.lt_or_ge i n with h | h
      · exact h1 i h
      · obtain rfl : i = n := by omega
        exact h2
    · exact fun h => ⟨fun i hi => h i (by omega), h n (by omega)⟩
theorem manyUp_iff {l : List Pst} {n : Nat} : manyUp l n = false ↔ ∀ i, i < n → (pAt l i).2.length ≤ 4096 := by
  induction n with
  | zero => simp [manyUp]
  | succ n ih =>
    rw [manyUp, Bool.or_eq_false_iff, ih, decide_eq_false_iff_not]
    constructor
    · rintro ⟨h1, h2⟩ i hi
      rcases Nat.lt_or_ge i n with h | h
      · exact h1 i h
      · obtain rfl : i = n := by omega
        omega
    · exact fun h => ⟨fun i hi => h i (by omega), by have := h n (by omega); omega⟩
theorem okAt_iff {l : List Pst} {i : Nat} : okAt l i = true ↔ 0 ≤ (pAt l i).1 ∧ (pAt l i).1 ≤ 4294967296 ∧ lastD l i < (pAt l i).1 ∧ 0 < (pAt l i).2.length ∧ rises (-1) (poss (pAt l i).2) = true ∧ rises (-1) (atss (pAt l i).2) = true := by
  unfold okAt
  simp only [Bool.and_eq_true, decide_eq_true_eq]
theorem pAt_of {l : List Pst} {x : Pst} (h : x ∈ l) : ∃ i, i < l.length ∧ pAt l i = x := by
  obtain ⟨i, hi, rfl⟩ := List.mem_iff_getElem.1 h
  exact ⟨i, hi, by unfold pAt; rw [List.getD_eq_getElem?_getD, List.getElem?_eq_getElem hi]; rfl⟩
theorem check_ok {l : List Pst} (hf : FitP l) : checkP l = 0 ↔ ValidP l := by
  unfold checkP
  constructor
  · intro h
    split at h
    · cases h
    · split at h
      · cases h
      · split at h
        · rename_i h1 h2 h3
          have h2 := manyUp_iff.1 (by simpa using h2)
          have h3 := okUp_iff.1 h3
          have at1 : ∀ x ∈ l, ∃ i, i < l.length ∧ pAt l i = x ∧ okAt l i = true := fun x hx => by
            obtain ⟨i, hi, e⟩ := pAt_of hx
            exact ⟨i, hi, e, h3 i hi⟩
          exact {
            few := by omega
            spots := fun x hx => by obtain ⟨i, hi, rfl, _⟩ := at1 x hx; exact h2 i hi
            some := fun x hx => by obtain ⟨i, hi, rfl, h⟩ := at1 x hx; exact (okAt_iff.1 h).2.2.2.1
            docs := fun x hx => by obtain ⟨i, hi, rfl, h⟩ := at1 x hx; exact ⟨(okAt_iff.1 h).1, (okAt_iff.1 h).2.1⟩
            up := fun i hi => (okAt_iff.1 (h3 i hi)).2.2.1
            pos := fun x hx => by obtain ⟨i, hi, rfl, h⟩ := at1 x hx; exact (okAt_iff.1 h).2.2.2.2.1
            at_ := fun x hx => by obtain ⟨i, hi, rfl, h⟩ := at1 x hx; exact (okAt_iff.1 h).2.2.2.2.2
            fit := hf }
        · cases h
  · intro h
    have h1 := h.few
    rw [if_neg (by omega), if_neg, if_pos]
    · exact okUp_iff.2 fun i hi => okAt_iff.2 ⟨(h.docs _ (pAt_mem hi)).1, (h.docs _ (pAt_mem hi)).2, h.up i hi, h.some _ (pAt_mem hi), h.pos _ (pAt_mem hi), h.at_ _ (pAt_mem hi)⟩
    · rw [manyUp_iff.2 fun i hi => h.spots _ (pAt_mem hi)]
      simp

def past1 (b : List UInt8) (n : Nat) : Nat := if (getL (b.drop n)).2.2 = 0 then n + (getL (b.drop n)).2.1 else n
/-- Behind two numbers, if they are there. -/
def pastB (b : List UInt8) (n : Nat) : Nat := past1 b (past1 b n)
/-- Where the numbers of a place begin. -/
def skipB (b : List UInt8) (i n : Nat) : Nat := if i % 4 = 0 then pastB b (if i % 16 = 0 then pastB b n else n) else (if i % 16 = 0 then pastB b n else n)
/-- One posting's numbers at a place: how far its Doc is, its spots, where it ends. -/
def rdOne (b : List UInt8) (n : Nat) : Option (Nat × List (Int × Int) × Nat) :=
  if (getL (b.drop n)).2.2 ≠ 0 ∨ 4294967296 < (getL (b.drop n)).1 then none
  else
    if (getR (b.drop (n + (getL (b.drop n)).2.1)) 4096).2.2 ≠ 0 then none
    else
      if (getR (b.drop (n + (getL (b.drop n)).2.1 + (getR (b.drop (n + (getL (b.drop n)).2.1)) 4096).2.1)) 4096).2.2 ≠ 0 ∨ (getR (b.drop (n + (getL (b.drop n)).2.1 + (getR (b.drop (n + (getL (b.drop n)).2.1)) 4096).2.1)) 4096).1.length ≠ (getR (b.drop (n + (getL (b.drop n)).2.1)) 4096).1.length then none
      else some ((getL (b.drop n)).1, (getR (b.drop (n + (getL (b.drop n)).2.1)) 4096).1.zip (getR (b.drop (n + (getL (b.drop n)).2.1 + (getR (b.drop (n + (getL (b.drop n)).2.1)) 4096).2.1)) 4096).1,
        n + (getL (b.drop n)).2.1 + (getR (b.drop (n + (getL (b.drop n)).2.1)) 4096).2.1 + (getR (b.drop (n + (getL (b.drop n)).2.1 + (getR (b.drop (n + (getL (b.drop n)).2.1)) 4096).2.1)) 4096).2.1)
/-- The first postings of bytes, and where they end. -/
def rdUp (b : List UInt8) (n0 : Nat) : Nat → Option (List Pst × Nat × Int)
  | 0 => some ([], n0, -1)
  | i + 1 => match rdUp b n0 i with
    | none => none
    | some (l, n, doc) => match rdOne b (skipB b i n) with
      | none => none
      | some (d, s, n2) => some (l ++ [(doc + d + 1, s)], n2, doc + d + 1)
def getP (b : List UInt8) : List Pst × Int :=
  if (getL b).2.2 ≠ 0 ∨ 4096 < (getL b).1 then ([], 3)
  else match rdUp b (getL b).2.1 (getL b).1 with
    | none => ([], 3)
    | some (l, _, _) => if checkP l = 0 ∧ putP l = b then (l, 0) else ([], 3)

theorem past_head {b : List UInt8} {n : Nat} {u v : Nat} {r : List UInt8} (hu : u < 2 ^ 64) (hv : v < 2 ^ 64) (h : b.drop n = putL u ++ putL v ++ r) : pastB b n = n + (putL u ++ putL v).length ∧ b.drop (pastB b n) = r := by
  have h1 : getL (b.drop n) = (u, (putL u).length, 0) := by rw [h, List.append_assoc]; exact getL_put hu _
  have e1 : past1 b n = n + (putL u).length := by unfold past1; rw [h1]; simp
  have h2 : b.drop (n + (putL u).length) = putL v ++ r := by rw [← List.drop_drop, h, List.append_assoc, getL_drop]
  have h3 : getL (b.drop (n + (putL u).length)) = (v, (putL v).length, 0) := by rw [h2]; exact getL_put hv _
  have e2 : pastB b n = n + (putL u).length + (putL v).length := by
    unfold pastB
    rw [e1]
    unfold past1
    rw [h3]
    simp
  refine ⟨by rw [e2, List.length_append]; omega, ?_⟩
  rw [e2, ← List.drop_drop, h2, getL_drop]
theorem zip_spots (s : List (Int × Int)) : (poss s).zip (atss s) = s := by
  induction s with
  | nil => rfl
  | cons x s ih =>
    simp only [poss, atss, List.map_cons, List.zip_cons_cons] at ih ⊢
    rw [ih]
theorem rdOne_put {l : List Pst} (hl : ValidP l) {i : Nat} (hi : i < l.length) {b : List UInt8} {n : Nat} {r : List UInt8} (h : b.drop n = unitB l i ++ r) :
    rdOne b n = some (((pAt l i).1 - lastD l i - 1).toNat, (pAt l i).2, n + (unitB l i).length) ∧ b.drop (n + (unitB l i).length) = r := by
  have q1 := hl.docs _ (pAt_mem hi)
  have w1 := hl.last (Nat.le_of_lt hi)
  have u1 := hl.up i hi
  have p1 := poss_le (hl.fit _ (pAt_mem hi))
  have n1 := poss_len (pAt l i).2
  have s1 := hl.spots _ (pAt_mem hi)
  have h0 := h
  obtain ⟨d, hd⟩ : ∃ d, d = ((pAt l i).1 - lastD l i - 1).toNat := ⟨_, rfl⟩
  obtain ⟨P, hP⟩ : ∃ P, P = poss (pAt l i).2 := ⟨_, rfl⟩
  obtain ⟨Q, hQ⟩ : ∃ Q, Q = atss (pAt l i).2 := ⟨_, rfl⟩
  have e0 : unitB l i = putL d ++ (putR P ++ putR Q) := by unfold unitB; rw [← hd, ← hP, ← hQ]
  rw [e0, List.append_assoc] at h
  have g1 : getL (b.drop n) = (d, (putL d).length, 0) := by rw [h]; exact getL_put (by omega) _
  have h2 : b.drop (n + (putL d).length) = putR P ++ (putR Q ++ r) := by rw [← List.drop_drop, h, getL_drop, List.append_assoc]
  have g2 : getR (b.drop (n + (putL d).length)) 4096 = (P, (putR P).length, 0) := by
    rw [h2]
    exact getR_put P (by rw [hP]; omega) (by rw [hP]; exact hl.pos _ (pAt_mem hi)) (by rw [hP]; exact p1.1) _ _ (by rw [hP]; omega)
  have h3 : b.drop (n + (putL d).length + (putR P).length) = putR Q ++ r := by rw [← List.drop_drop, h2, List.drop_left]
  have g3 : getR (b.drop (n + (putL d).length + (putR P).length)) 4096 = (Q, (putR Q).length, 0) := by
    rw [h3]
    exact getR_put Q (by rw [hQ]; omega) (by rw [hQ]; exact hl.at_ _ (pAt_mem hi)) (by rw [hQ]; exact p1.2) _ _ (by rw [hQ]; omega)
  constructor
  · unfold rdOne
    simp only [g1, g2, g3]
    rw [if_neg (by simp; omega), if_neg (by simp), if_neg (by rw [hP, hQ]; simp; omega), hP, hQ, zip_spots, ← hP, ← hQ, e0, ← hd]
    simp only [List.length_append, Option.some.injEq, Prod.mk.injEq, true_and]
    omega
  · rw [← List.drop_drop, h0, List.drop_left]
theorem skip_put {l : List Pst} (hl : ValidP l) {i : Nat} (hi : i < l.length) {b : List UInt8} {n : Nat} {r : List UInt8} (h : b.drop n = lin l i ++ r) : b.drop (skipB b i n) = unitB l i ++ r ∧ skipB b i n + (unitB l i).length = n + (lin l i).length := by
  have b1 := units_len hl (i := i) (k := min l.length (i + 4) - i) (by omega)
  have g1 := linBs_len hl (i := i) (k := min l.length (i + 16) - i) (by omega)
  obtain ⟨n1, hn1⟩ : ∃ n1, n1 = if i % 16 = 0 then pastB b n else n := ⟨_, rfl⟩
  have hb : b.drop n1 = linB l i ++ r ∧ n1 + (linB l i).length = n + (lin l i).length := by
    unfold lin at h ⊢
    by_cases h16 : i % 16 = 0
    · rw [if_pos h16] at h hn1 ⊢
      rw [List.append_assoc] at h
      obtain ⟨e1, e2⟩ := past_head (head_val hl (by omega) (by omega)) (by omega) h
      rw [hn1]
      refine ⟨e2, ?_⟩
      rw [e1]
      unfold groupB headB
      simp only [List.length_append]
      omega
    · rw [if_neg h16] at h hn1 ⊢
      rw [hn1]
      exact ⟨h, by simp⟩
  have hs : skipB b i n = if i % 4 = 0 then pastB b n1 else n1 := by rw [hn1]; rfl
  rw [hs]
  obtain ⟨hb1, hb2⟩ := hb
  unfold linB at hb1 hb2
  by_cases h4 : i % 4 = 0
  · rw [if_pos h4] at hb1 hb2 ⊢
    rw [List.append_assoc] at hb1
    obtain ⟨e1, e2⟩ := past_head (head_val hl (by omega) (by omega)) (by omega) hb1
    refine ⟨e2, ?_⟩
    rw [e1, ← hb2]
    unfold blockB headB
    simp only [List.length_append]
    omega
  · rw [if_neg h4] at hb1 hb2 ⊢
    exact ⟨hb1, by rw [← hb2]; simp⟩
theorem rdUp_put {l : List Pst} (hl : ValidP l) {b : List UInt8} {n0 : Nat} (hb : b.drop n0 = cat (lin l) 0 l.length) : ∀ i, i ≤ l.length → rdUp b n0 i = some (l.take i, n0 + (cat (lin l) 0 i).length, lastD l i)
  | 0, _ => by simp [rdUp, cat, lastD]
  | i + 1, hi => by
    have ih := rdUp_put hl hb i (by omega)
    have hx := pAt_mem (show i < l.length by omega)
    have hd : b.drop (n0 + (cat (lin l) 0 i).length) = lin l i ++ cat (lin l) (i + 1) (l.length - (i + 1)) := by
      have e := cat_add (lin l) 0 i (l.length - i)
      rw [show i + (l.length - i) = l.length by omega, Nat.zero_add] at e
      rw [← List.drop_drop, hb, e, List.drop_left, show l.length - i = (l.length - (i + 1)) + 1 by omega, cat_cons]
    obtain ⟨h1, h2⟩ := skip_put hl (by omega) hd
    obtain ⟨h3, _⟩ := rdOne_put hl (by omega) h1
    have u1 := hl.up i (by omega)
    unfold rdUp
    rw [ih]
    simp only [h3]
    have e1 : lastD l i + (((pAt l i).1 - lastD l i - 1).toNat : Int) + 1 = (pAt l i).1 := by omega
    have e2 : lastD l (i + 1) = (pAt l i).1 := by unfold lastD; rw [if_neg (by omega)]; rfl
    have e3 : l.take (i + 1) = l.take i ++ [pAt l i] := by
      rw [List.take_add_one]
      unfold pAt
      rw [List.getD_eq_getElem?_getD, List.getElem?_eq_getElem (by omega)]
      rfl
    rw [e1, e2, e3, h2, cat, List.length_append, Nat.zero_add]
    simp only [Option.some.injEq, Prod.mk.injEq]
    exact ⟨trivial, by omega, trivial⟩
theorem getP_put {l : List Pst} (hl : ValidP l) : getP (putP l) = (l, 0) := by
  have f1 := hl.few
  have h1 : getL (putP l) = (l.length, (putL l.length).length, 0) := by unfold putP; exact getL_put (by omega) _
  have h2 : (putP l).drop (putL l.length).length = cat (lin l) 0 l.length := by unfold putP; rw [getL_drop]
  unfold getP
  rw [h1]
  simp only
  rw [if_neg (by simp; omega), rdUp_put hl h2 l.length (Nat.le_refl _)]
  simp only [List.take_length]
  rw [if_pos ⟨(check_ok hl.fit).2 hl, trivial⟩]
theorem getP_some {b : List UInt8} (h : (getP b).2 = 0) : checkP (getP b).1 = 0 ∧ putP (getP b).1 = b := by
  unfold getP at h ⊢
  split at h
  · cases h
  · rename_i h1
    rw [if_neg h1]
    split at h
    · cases h
    · rename_i l n d h2
      split at h
      · rename_i h3
        rw [if_pos h3]
        exact h3
      · cases h
theorem getP_err (b : List UInt8) : (getP b).2 = 0 ∨ getP b = ([], 3) := by
  unfold getP
  split
  · exact .inr rfl
  · split
    · exact .inr rfl
    · split
      · exact .inl rfl
      · exact .inr rfl
end Go.Proofs.Ytkligdaademakaa
namespace Go.Proofs.Ytkligdaademakaa

structure CSt where
  l : List Pst
  at_ : Nat
  read : Nat
  last : Int
/-- The block that it stands in is read. -/
def cStand (s : CSt) : CSt := if s.at_ < s.l.length ∧ (s.at_ / 4 : Nat) ≠ s.last then { s with read := s.read + 1, last := (s.at_ / 4 : Nat) } else s
def cIn (s : CSt) : Bool := decide (s.at_ < s.l.length)
def cStart (l : List Pst) : CSt := cStand ⟨l, 0, 0, -1⟩
def cNext (s : CSt) : CSt := cStand (if s.at_ < s.l.length then { s with at_ := s.at_ + 1 } else s)
def skipN (l : List Pst) (d : Int) : Nat → Nat → Nat
  | 0, a => a
  | f + 1, a => if a < l.length ∧ (pAt l a).1 < d then skipN l d f (a + 1) else a
def cSkip (s : CSt) (d : Int) : CSt := cStand { s with at_ := skipN s.l d (s.l.length - s.at_) s.at_ }
def cDoc (s : CSt) : Int := if s.at_ < s.l.length then (pAt s.l s.at_).1 else 0
def cSpots (s : CSt) : List (Int × Int) := if s.at_ < s.l.length then (pAt s.l s.at_).2 else []

theorem cStand_l (s : CSt) : (cStand s).l = s.l ∧ (cStand s).at_ = s.at_ := by
  unfold cStand
  split <;> exact ⟨rfl, rfl⟩
theorem cIn_stand (s : CSt) : cIn (cStand s) = cIn s := by
  unfold cIn
  rw [(cStand_l s).1, (cStand_l s).2]
/-- What is always so. -/
structure CWF (s : CSt) : Prop where
  few : s.l.length ≤ 4096
  at_ : s.at_ ≤ s.l.length
  last : -1 ≤ s.last ∧ s.last ≤ (s.at_ / 4 : Nat)
  read : (s.read : Int) ≤ s.last + 1
  end_ : 4 * s.last < (s.l.length : Int)
  some : ∀ x ∈ s.l, 0 < x.2.length ∧ x.2.length ≤ 4096
theorem CWF.stand {s : CSt} (h : CWF s) : CWF (cStand s) := by
  have h1 := h.last
  have h2 := h.read
  unfold cStand
  split
  · rename_i hc
    refine ⟨h.few, h.at_, ⟨?_, ?_⟩, ?_, ?_, h.some⟩
    · simp only; omega
    · simp only; omega
    · simp only; push_cast; omega
    · simp only; have := hc.1; omega
  · exact h
theorem CWF.start {l : List Pst} (h : l.length ≤ 4096) (h1 : ∀ x ∈ l, 0 < x.2.length ∧ x.2.length ≤ 4096) : CWF (cStart l) := by
  unfold cStart
  exact CWF.stand ⟨h, Nat.zero_le _, ⟨by simp, by simp⟩, by simp, by simp only; omega, h1⟩
theorem CWF.move {s : CSt} (h : CWF s) {a : Nat} (h1 : s.at_ ≤ a) (h2 : a ≤ s.l.length) : CWF { s with at_ := a } := by
  have h3 := h.last
  refine ⟨h.few, h2, ⟨h3.1, ?_⟩, h.read, h.end_, h.some⟩
  simp only
  omega
theorem CWF.next {s : CSt} (h : CWF s) : CWF (cNext s) := by
  unfold cNext
  refine CWF.stand ?_
  split
  · exact h.move (Nat.le_succ _) (by omega)
  · exact h
theorem skipN_le (l : List Pst) (d : Int) : ∀ (f a : Nat), a ≤ l.length → a ≤ skipN l d f a ∧ skipN l d f a ≤ l.length
  | 0, a, h => ⟨Nat.le_refl _, h⟩
  | f + 1, a, h => by
    simp only [skipN]
    split
    · rename_i hc
      have := skipN_le l d f (a + 1) (by omega)
      omega
    · exact ⟨Nat.le_refl _, h⟩
theorem CWF.skip {s : CSt} (h : CWF s) (d : Int) : CWF (cSkip s d) := by
  unfold cSkip
  have := skipN_le s.l d (s.l.length - s.at_) s.at_ h.at_
  exact CWF.stand (h.move this.1 this.2)
end Go.Proofs.Ytkligdaademakaa
namespace Go.Proofs.Ytkligdaademakaa


theorem pAt_eq {l : List Pst} {i : Nat} {x : Pst} (h : l[i]? = some x) : pAt l i = x := by
  unfold pAt
  rw [List.getD_eq_getElem?_getD, h]
  rfl
/-- Of the first spots: do they rise? -/
def spAt (s : List (Int × Int)) (k : Nat) : Bool := decide ((if k = 0 then -1 else (s.getD (k - 1) (0, 0)).1) < (s.getD k (0, 0)).1) && decide ((if k = 0 then -1 else (s.getD (k - 1) (0, 0)).2) < (s.getD k (0, 0)).2)
theorem rises_iff {l : List Int} {p : Int} : rises p l = true ↔ ∀ k, k < l.length → (if k = 0 then p else l.getD (k - 1) 0) < l.getD k 0 := by
  rw [rises_at]
  constructor
  · intro h k hk
    have h1 := h k (l[k]'hk) (List.getElem?_eq_getElem hk)
    rw [List.getD_eq_getElem?_getD (l := l) (i := k), List.getElem?_eq_getElem hk]
    exact h1
  · intro h k x hx
    have hk := (List.getElem?_eq_some_iff.1 hx).1
    have h1 := h k hk
    rw [List.getD_eq_getElem?_getD (l := l) (i := k), hx] at h1
    exact h1
theorem getD_poss (s : List (Int × Int)) (k : Nat) : (poss s).getD k 0 = (s.getD k (0, 0)).1 ∧ (atss s).getD k 0 = (s.getD k (0, 0)).2 := by
  unfold poss atss
  rw [List.getD_eq_getElem?_getD, List.getD_eq_getElem?_getD, List.getD_eq_getElem?_getD, List.getElem?_map, List.getElem?_map]
  cases s[k]? <;> exact ⟨rfl, rfl⟩
theorem spots_rise {s : List (Int × Int)} : (rises (-1) (poss s) && rises (-1) (atss s)) = true ↔ ∀ k, k < s.length → spAt s k = true := by
  rw [Bool.and_eq_true, rises_iff, rises_iff]
  have n1 := poss_len s
  constructor
  · rintro ⟨h1, h2⟩ k hk
    have q1 := h1 k (by omega)
    have q2 := h2 k (by omega)
    rw [(getD_poss s k).1, (getD_poss s (k - 1)).1] at q1
    rw [(getD_poss s k).2, (getD_poss s (k - 1)).2] at q2
    unfold spAt
    rw [decide_eq_true q1, decide_eq_true q2]
    rfl
  · intro h
    constructor
    · intro k hk
      have h1 := h k (by omega)
      unfold spAt at h1
      rw [Bool.and_eq_true, decide_eq_true_eq, decide_eq_true_eq] at h1
      rw [(getD_poss s k).1, (getD_poss s (k - 1)).1]
      exact h1.1
    · intro k hk
      have h1 := h k (by omega)
      unfold spAt at h1
      rw [Bool.and_eq_true, decide_eq_true_eq, decide_eq_true_eq] at h1
      rw [(getD_poss s k).2, (getD_poss s (k - 1)).2]
      exact h1.2
theorem sp_low {s : List (Int × Int)} {k : Nat} (h : ∀ j, j < k → spAt s j = true) : ∀ j, j < k → 0 ≤ (s.getD j (0, 0)).1 ∧ 0 ≤ (s.getD j (0, 0)).2
  | 0, hj => by
    have h1 := h 0 hj
    unfold spAt at h1
    simp only [Bool.and_eq_true, decide_eq_true_eq, if_true] at h1
    omega
  | j + 1, hj => by
    have ih := sp_low h j (by omega)
    have h1 := h (j + 1) hj
    unfold spAt at h1
    simp only [Bool.and_eq_true, decide_eq_true_eq, Nat.add_sub_cancel, if_neg (Nat.succ_ne_zero j)] at h1
    omega
theorem check_many {l : List Pst} (h : 4096 < l.length) : checkP l = 2 := by unfold checkP; rw [if_pos h]
theorem check_spots {l : List Pst} {k : Nat} (hk : k < l.length) (h : 4096 < (pAt l k).2.length) : checkP l = 2 := by
  unfold checkP
  split
  · rfl
  · rw [if_pos]
    cases hm : manyUp l l.length with
    | true => rfl
    | false => have := manyUp_iff.1 hm k hk; omega
theorem check_bad {l : List Pst} (h1 : l.length ≤ 4096) (h2 : manyUp l l.length = false) {k : Nat} (hk : k < l.length) (h : okAt l k = false) : checkP l = 1 := by
  unfold checkP
  rw [if_neg (by omega), h2, if_neg (by simp), if_neg]
  intro e
  rw [okUp_iff.1 e k hk] at h
  cases h
theorem check_good {l : List Pst} (h1 : l.length ≤ 4096) (h2 : manyUp l l.length = false) (h : okUp l l.length = true) : checkP l = 0 := by
  unfold checkP
  rw [if_neg (by omega), h2, if_neg (by simp), if_pos h]
theorem okAt_spots {l : List Pst} {i : Nat} (h : (rises (-1) (poss (pAt l i).2) && rises (-1) (atss (pAt l i).2)) = false) : okAt l i = false := by
  unfold okAt
  rw [h]
  simp
end Go.Proofs.Ytkligdaademakaa
namespace Go.Proofs.Ytkligdaademakaa
open Go.RowKit Go.Maps Go.WideMaps
set_option linter.unusedSimpArgs false

theorem rises_low {l : List Int} {p : Int} (h : rises p l = true) : ∀ y ∈ l, p < y := by
  induction l generalizing p with
  | nil => intro y hy; cases hy
  | cons x l ih =>
    simp only [rises, Bool.and_eq_true, decide_eq_true_eq] at h
    intro y hy
    rcases List.mem_cons.1 hy with rfl | hy
    · exact h.1
    · have := ih h.2 y hy; omega
theorem BytesIn.grownOther {w w' : World} {A : Option Addr} {n : Nat} {l : Nm} {row : Option Nat} (h : BytesIn w A n l) (hg : w.grownBy w' row) (hne : ∀ ad, A = some ad → row ≠ some ad.block) : BytesIn w' A n l :=
  ⟨h.1, h.2.1.keep fun ad e h0 => hg.block _ (h.2.2 ad e h0) (fun e2 => hne ad e e2.symm), fun ad e h0 => Nat.lt_of_lt_of_le (h.2.2 ad e h0) hg.size⟩
theorem ValidP.ahead {l : List Pst} (h : ValidP l) {f : Nat} : ∀ {k : Nat}, f + k < l.length → lastD l f < (pAt l (f + k)).1
  | 0, hk => h.up f hk
  | k + 1, hk => by
    have h1 := h.ahead (f := f) (k := k) (by omega)
    have h2 := h.up (f + (k + 1)) hk
    unfold lastD at h2
    rw [if_neg (by omega), show f + (k + 1) - 1 = f + k by omega] at h2
    omega
theorem ValidP.last_lt {l : List Pst} (h : ValidP l) {f t : Nat} (hf : f < t) (ht : t ≤ l.length) : lastD l f < (pAt l (t - 1)).1 := by
  have := h.ahead (f := f) (k := t - 1 - f) (by omega)
  rwa [show f + (t - 1 - f) = t - 1 by omega] at this
theorem ValidP.doc_le {l : List Pst} (h : ValidP l) {t : Nat} (h0 : 0 < t) (ht : t ≤ l.length) : (pAt l (t - 1)).1 ≤ 4294967296 := (h.docs _ (pAt_mem (by omega))).2
theorem fit_of {w : World} {A : Option Addr} {n : Nat} {l : List Pst} (h : PostsSee w A n l) : FitP l := by
  intro x hx s hs
  obtain ⟨i, hi⟩ := List.getElem?_of_mem hx
  cases A with
  | none =>
    have h0 := h.nil rfl
    have h1 := h.len
    have : l = [] := List.eq_nil_of_length_eq_zero (by omega)
    subst this
    cases hx
  | some ad =>
    obtain ⟨_, _, B, c, _, _, h4⟩ := h.at_ ad rfl i x hi
    have := h4.vals s hs
    unfold fits64 at this
    omega
/-- The bytes of any postings; none if they are not valid. -/
def putE (l : List Pst) : List UInt8 := if checkP l = 0 then putP l else []
def PutPOut (w : World) (l : List Pst) (e : Ending) (w' : World) : Prop :=
  ∃ v, e = .returned (.tuple #[v, .int .i64 (checkP l)]) ∧ w'.ownsRow w.heap.size 5 1 v (putE l).length ((putE l).map byteV) ∧ Below w.heap.size w w'
theorem headB_len {l : List Pst} (h : ValidP l) {f t : Nat} (hf : f ≤ l.length) (ht : t ≤ l.length) {b : List UInt8} (hb : b.length < 18446744073709551616) : (headB l f t b).length ≤ 20 := by
  unfold headB
  have h1 := putL_len _ (head_val h ht hf)
  have h2 := putL_len b.length hb
  rw [List.length_append]
  omega
/-- One block more; one group more. -/
theorem block_next {l : List Pst} {i k t : Nat} (hik : i ≤ k) (hk4 : k % 4 = 0) (hkt : k < t) (ht : t = min l.length (k + 4)) :
    cat (linB l) i (k - i) ++ (headB l k t (cat (unitB l) k (t - k)) ++ cat (unitB l) k (t - k)) = cat (linB l) i (t - i) := by
  have h1 := cat_block l (i := k) (k := t - k) hk4 (by omega) (by omega)
  have h2 := cat_add (linB l) i (k - i) (t - k)
  rw [show k - i + (t - k) = t - i by omega, show i + (k - i) = k by omega, h1] at h2
  rw [h2]
  unfold blockB
  rw [← ht]
theorem group_next {l : List Pst} {i t : Nat} (hi : i % 16 = 0) (hit : i < t) (ht : t = min l.length (i + 16)) :
    cat (lin l) 0 i ++ (headB l i t (cat (linB l) i (t - i)) ++ cat (linB l) i (t - i)) = cat (lin l) 0 t := by
  have h1 := cat_group l (i := i) (k := t - i) hi (by omega) (by omega)
  have h2 := cat_add (lin l) 0 i (t - i)
  rw [show i + (t - i) = t by omega, Nat.zero_add, h1] at h2
  rw [h2]
  unfold groupB
  rw [← ht]
end Go.Proofs.Ytkligdaademakaa
namespace Go.Proofs.Ytkligdaademakaa

theorem rdUp_none {b : List UInt8} {n0 k : Nat} (h : rdUp b n0 k = none) : ∀ m, rdUp b n0 (k + m) = none
  | 0 => h
  | m + 1 => by
    have ih := rdUp_none h m
    rw [← Nat.add_assoc, rdUp, ih]
theorem getL_le {l : List UInt8} (h : (getL l).2.2 = 0) : (getL l).2.1 ≤ l.length ∧ (getL l).1 < 2 ^ 64 := by
  rcases hg : getL l with ⟨v, k, e⟩
  rw [hg] at h
  simp only at h
  subst h
  obtain ⟨_, _, h3, _, h5⟩ := getL_inv hg
  exact ⟨h3, h5⟩
theorem getR_le {l : List UInt8} {most : Int} (h : (getR l most).2.2 = 0) : (getR l most).2.1 ≤ l.length ∧ ((getR l most).1.length : Int) ≤ most ∧ rises (-1) (getR l most).1 = true ∧ ∀ x ∈ (getR l most).1, x ≤ 9223372036854775807 := by
  rcases hg : getR l most with ⟨v, k, e⟩
  rw [hg] at h
  simp only at h
  subst h
  obtain ⟨h1, h2, h3, _, h5⟩ := getR_inv hg
  exact ⟨h3, h5, h1, h2⟩
theorem past1_in {b : List UInt8} {n : Nat} (h : n ≤ b.length) : past1 b n ≤ b.length := by
  unfold past1
  split
  · rename_i h1
    have := (getL_le h1).1
    rw [List.length_drop] at this
    omega
  · exact h
theorem pastB_in {b : List UInt8} {n : Nat} (h : n ≤ b.length) : pastB b n ≤ b.length := past1_in (past1_in h)
theorem skipB_in {b : List UInt8} {i n : Nat} (h : n ≤ b.length) : skipB b i n ≤ b.length := by
  unfold skipB
  have h1 := pastB_in h
  split <;> split <;> first | exact pastB_in h1 | exact pastB_in h | exact h1 | exact h
theorem rises_ge {l : List Int} {p : Int} (h : rises p l = true) : ∀ y ∈ l, p < y := by
  induction l generalizing p with
  | nil => intro y hy; cases hy
  | cons x l ih =>
    simp only [rises, Bool.and_eq_true, decide_eq_true_eq] at h
    intro y hy
    rcases List.mem_cons.1 hy with rfl | hy
    · exact h.1
    · have := ih h.2 y hy; omega
theorem zip_in {a c : List Int} {x : Int × Int} (h : x ∈ a.zip c) : x.1 ∈ a ∧ x.2 ∈ c := ⟨(List.of_mem_zip h).1, (List.of_mem_zip h).2⟩
/-- What one step reads. -/
structure OneOk (b : List UInt8) (d : Nat) (s : List (Int × Int)) (n2 : Nat) : Prop where
  doc : d ≤ 4294967296
  end_ : n2 ≤ b.length
  few : s.length ≤ 4096
  fit : ∀ x ∈ s, 0 ≤ x.1 ∧ x.1 ≤ 9223372036854775807 ∧ 0 ≤ x.2 ∧ x.2 ≤ 9223372036854775807
theorem rdOne_ok {b : List UInt8} {n d n2 : Nat} {s : List (Int × Int)} (h : rdOne b n = some (d, s, n2)) (hn : n ≤ b.length) : OneOk b d s n2 := by
  unfold rdOne at h
  split at h
  · cases h
  · rename_i h1
    split at h
    · cases h
    · rename_i h2
      split at h
      · cases h
      · rename_i h3
        simp only [Option.some.injEq, Prod.mk.injEq] at h
        obtain ⟨e1, e2, e3⟩ := h
        have g1 := getL_le (Decidable.not_not.1 fun h => h1 (.inl h))
        have g2 := getR_le (Decidable.not_not.1 h2)
        have g3 := getR_le (Decidable.not_not.1 fun h => h3 (.inl h))
        rw [List.length_drop] at g1 g2 g3
        refine ⟨by omega, by omega, ?_, fun x hx => ?_⟩
        · rw [← e2, List.length_zip]
          omega
        · rw [← e2] at hx
          obtain ⟨q1, q2⟩ := zip_in hx
          have a1 := rises_ge g2.2.2.1 _ q1
          have a2 := rises_ge g3.2.2.1 _ q2
          exact ⟨by omega, g2.2.2.2 _ q1, by omega, g3.2.2.2 _ q2⟩
structure UpOk (b : List UInt8) (k : Nat) (l : List Pst) (n : Nat) (doc : Int) : Prop where
  len : l.length = k
  end_ : n ≤ b.length
  doc : -1 ≤ doc ∧ doc ≤ -1 + 4294967297 * (k : Int)
  docs : ∀ x ∈ l, -1 ≤ x.1 ∧ x.1 ≤ 4294967297 * (k : Int)
  few : ∀ x ∈ l, x.2.length ≤ 4096
  fit : ∀ x ∈ l, ∀ s ∈ x.2, 0 ≤ s.1 ∧ s.1 ≤ 9223372036854775807 ∧ 0 ≤ s.2 ∧ s.2 ≤ 9223372036854775807
theorem rdUp_ok {b : List UInt8} {n0 : Nat} (h0 : n0 ≤ b.length) : ∀ (k : Nat) (l : List Pst) (n : Nat) (doc : Int), rdUp b n0 k = some (l, n, doc) → UpOk b k l n doc
  | 0, l, n, doc, h => by
    simp only [rdUp, Option.some.injEq, Prod.mk.injEq] at h
    obtain ⟨rfl, rfl, rfl⟩ := h
    exact ⟨rfl, h0, by omega, fun x hx => (by cases hx), fun x hx => (by cases hx), fun x hx => (by cases hx)⟩
  | k + 1, l, n, doc, h => by
    rw [rdUp] at h
    split at h
    · cases h
    · rename_i l' n' doc' h1
      have ih := rdUp_ok h0 k l' n' doc' h1
      split at h
      · cases h
      · rename_i d s n2 h2
        simp only [Option.some.injEq, Prod.mk.injEq] at h
        obtain ⟨rfl, rfl, rfl⟩ := h
        have ho := rdOne_ok h2 (skipB_in ih.end_)
        have hd := ho.doc
        have i1 := ih.doc
        refine ⟨by simp [ih.len], ho.end_, by omega, fun x hx => ?_, fun x hx => ?_, fun x hx => ?_⟩
        · rcases List.mem_append.1 hx with h | h
          · have := ih.docs x h; omega
          · rw [List.mem_singleton.1 h]; simp only; omega
        · rcases List.mem_append.1 hx with h | h
          · exact ih.few x h
          · rw [List.mem_singleton.1 h]; exact ho.few
        · rcases List.mem_append.1 hx with h | h
          · exact ih.fit x h
          · rw [List.mem_singleton.1 h]; exact ho.fit
theorem UpOk.fitP {b : List UInt8} {k n : Nat} {l : List Pst} {doc : Int} (h : UpOk b k l n doc) : FitP l := fun x hx s hs => ⟨(h.fit x hx s hs).2.1, (h.fit x hx s hs).2.2.2⟩
end Go.Proofs.Ytkligdaademakaa
namespace Go.Proofs.Ytkligdaademakaa

theorem pAt_take {l : List Pst} {k i : Nat} (h : i < k) : pAt (l.take k) i = pAt l i := by
  unfold pAt
  rw [List.getD_eq_getElem?_getD, List.getD_eq_getElem?_getD, List.getElem?_take, if_pos h]
theorem lastD_take {l : List Pst} {k i : Nat} (h : i ≤ k) : lastD (l.take k) i = lastD l i := by
  unfold lastD
  split
  · rfl
  · rw [pAt_take (by omega)]
theorem ValidP.take {l : List Pst} (h : ValidP l) (k : Nat) : ValidP (l.take k) where
  few := by rw [List.length_take]; have := h.few; omega
  spots := fun x hx => h.spots x (List.mem_of_mem_take hx)
  some := fun x hx => h.some x (List.mem_of_mem_take hx)
  docs := fun x hx => h.docs x (List.mem_of_mem_take hx)
  up := fun i hi => by
    rw [List.length_take] at hi
    rw [lastD_take (by omega), pAt_take (by omega)]
    exact h.up i (by omega)
  pos := fun x hx => h.pos x (List.mem_of_mem_take hx)
  at_ := fun x hx => h.at_ x (List.mem_of_mem_take hx)
  fit := fun x hx => h.fit x (List.mem_of_mem_take hx)
theorem getP_fit {b : List UInt8} : FitP (getP b).1 := by
  intro x hx s hs
  unfold getP at hx
  split at hx
  · cases hx
  · rename_i hc
    split at hx
    · cases hx
    · rename_i l' n' d' hu
      have hg := getL_le (l := b) (Decidable.not_not.1 fun h => hc (.inl h))
      have hok := rdUp_ok hg.1 _ _ _ _ hu
      split at hx
      · exact ⟨(hok.fit x hx s hs).2.1, (hok.fit x hx s hs).2.2.2⟩
      · cases hx
theorem getP_cut {l : List Pst} (hl : ValidP l) {k : Nat} (hk : k < (putP l).length) : (getP ((putP l).take k)).2 = 3 := by
  rcases getP_err ((putP l).take k) with h | h
  · exfalso
    obtain ⟨h1, h2⟩ := getP_some h
    have hv := (check_ok getP_fit).1 h1
    have h4 : putP (getP ((putP l).take k)).1 ++ (putP l).drop k = putP l ++ [] := by rw [h2, List.take_append_drop, List.append_nil]
    have h5 := (putP_inj hv hl h4).2
    have h6 := congrArg List.length h5
    rw [List.length_drop] at h6
    simp at h6
    omega
  · rw [h]
theorem getP_more {l : List Pst} (hl : ValidP l) (y : UInt8) : (getP (putP l ++ [y])).2 = 3 := by
  rcases getP_err (putP l ++ [y]) with h | h
  · exfalso
    obtain ⟨h1, h2⟩ := getP_some h
    have hv := (check_ok getP_fit).1 h1
    have h4 : putP (getP (putP l ++ [y])).1 ++ [] = putP l ++ [y] := by rw [h2, List.append_nil]
    have h5 := (putP_inj hv hl h4).2
    cases h5
  · rw [h]

theorem docs_le {l : List Pst} (h : ValidP l) {i : Nat} : ∀ {k : Nat}, i + k < l.length → (pAt l i).1 ≤ (pAt l (i + k)).1
  | 0, _ => Int.le_refl _
  | k + 1, hk => by
    have h1 := docs_le h (i := i) (k := k) (by omega)
    have h2 := h.up (i + (k + 1)) hk
    unfold lastD at h2
    rw [if_neg (by omega), show i + (k + 1) - 1 = i + k by omega] at h2
    omega
theorem docs_mono {l : List Pst} (h : ValidP l) {i j : Nat} (hij : i ≤ j) (hj : j < l.length) : (pAt l i).1 ≤ (pAt l j).1 := by
  have := docs_le h (i := i) (k := j - i) (by omega)
  rwa [show i + (j - i) = j by omega] at this
theorem cat_len_le {f g : Nat → List UInt8} {a : Nat} : ∀ {k : Nat}, (∀ i, a ≤ i → i < a + k → (f i).length ≤ (g i).length) → (cat f a k).length ≤ (cat g a k).length
  | 0, _ => Nat.le_refl _
  | k + 1, h => by
    have h1 := cat_len_le (k := k) fun i h2 h3 => h i h2 (by omega)
    have h2 := h (a + k) (by omega) (by omega)
    simp only [cat, List.length_append]
    omega
theorem cat_len_mono (g : Nat → List UInt8) (a : Nat) {j k : Nat} (h : j ≤ k) : (cat g a j).length ≤ (cat g a k).length := by
  obtain ⟨d, rfl⟩ : ∃ d, k = j + d := ⟨k - j, by omega⟩
  rw [cat_add, List.length_append]
  omega
theorem head_short {l : List Pst} (h : ValidP l) {m f t t' : Nat} (hft : f < t') (htt : t' ≤ t) (htm : t' ≤ m) (ht : t ≤ l.length) {b b' : List UInt8} (hb : b'.length ≤ b.length) : (headB (l.take m) f t' b').length ≤ (headB l f t b).length := by
  unfold headB
  rw [pAt_take (by omega), lastD_take (by omega), List.length_append, List.length_append]
  have h1 := docs_mono h (i := t' - 1) (j := t - 1) (by omega) (by omega)
  have h2 := putL_mono ((pAt l (t' - 1)).1 - lastD l f - 1).toNat ((pAt l (t - 1)).1 - lastD l f - 1).toNat (by omega)
  have h3 := putL_mono b'.length b.length hb
  omega
theorem unit_take {l : List Pst} {m i : Nat} (hi : i < m) : unitB (l.take m) i = unitB l i := by
  unfold unitB
  rw [pAt_take hi, lastD_take (by omega)]
section
variable {l : List Pst} (h : ValidP l) {m : Nat} (hm : m ≤ l.length)
include h hm
theorem block_short {i : Nat} (hi : i < m) : (blockB (l.take m) i).length ≤ (blockB l i).length := by
  unfold blockB
  rw [List.length_take, Nat.min_eq_left hm]
  refine head_short h (by omega) (by omega) (by omega) (by omega) ?_
  rw [cat_congr (f := unitB (l.take m)) (g := unitB l) fun j h1 h2 => unit_take (by omega)]
  exact cat_len_mono _ _ (by omega)
theorem linB_short {i : Nat} (hi : i < m) : (linB (l.take m) i).length ≤ (linB l i).length := by
  unfold linB
  rw [unit_take hi]
  split
  · have := block_short h hm hi
    simp only [List.length_append]
    omega
  · exact Nat.le_refl _
theorem group_short {i : Nat} (hi : i < m) : (groupB (l.take m) i).length ≤ (groupB l i).length := by
  unfold groupB
  rw [List.length_take, Nat.min_eq_left hm]
  refine head_short h (by omega) (by omega) (by omega) (by omega) ?_
  exact Nat.le_trans (cat_len_le fun j h1 h2 => linB_short h hm (by omega)) (cat_len_mono _ _ (by omega))
theorem lin_short {i : Nat} (hi : i < m) : (lin (l.take m) i).length ≤ (lin l i).length := by
  unfold lin
  have := linB_short h hm hi
  split
  · have := group_short h hm hi
    simp only [List.length_append]
    omega
  · exact this
end
theorem lin_some (l : List Pst) (i : Nat) : 0 < (lin l i).length := by
  have h1 : 0 < (unitB l i).length := by
    unfold unitB
    have := putL_pos ((pAt l i).1 - lastD l i - 1).toNat
    rw [List.length_append]
    omega
  unfold lin linB
  simp only [List.length_append]
  omega
theorem putP_short {l : List Pst} (h : ValidP l) (h0 : 0 < l.length) : (putP (l.take (l.length - 1))).length < (putP l).length := by
  unfold putP
  rw [List.length_take, Nat.min_eq_left (by omega), List.length_append, List.length_append]
  have h1 := putL_mono (l.length - 1) l.length (by omega)
  have h2 := cat_len_le (f := lin (l.take (l.length - 1))) (g := lin l) (a := 0) (k := l.length - 1) fun i _ hi => lin_short h (by omega) (by omega)
  have h3 : cat (lin l) 0 l.length = cat (lin l) 0 (l.length - 1) ++ lin l (l.length - 1) := by
    have := cat_add (lin l) 0 (l.length - 1) 1
    rw [show l.length - 1 + 1 = l.length by omega] at this
    rw [this]
    simp [cat]
  have h4 := lin_some l (l.length - 1)
  rw [h3, List.length_append]
  omega
end Go.Proofs.Ytkligdaademakaa
namespace Go.Proofs.Ytkligdaademakaa

theorem pAt_left {a b : List Pst} {i : Nat} (h : i < a.length) : pAt (a ++ b) i = pAt a i := by
  unfold pAt
  rw [List.getD_eq_getElem?_getD, List.getD_eq_getElem?_getD, List.getElem?_append_left h]
theorem pAt_right {a b : List Pst} {i : Nat} (h : a.length ≤ i) : pAt (a ++ b) i = pAt b (i - a.length) := by
  unfold pAt
  rw [List.getD_eq_getElem?_getD, List.getD_eq_getElem?_getD, List.getElem?_append_right h]
theorem pAt_drop {l : List Pst} {k i : Nat} : pAt (l.drop k) i = pAt l (k + i) := by
  unfold pAt
  rw [List.getD_eq_getElem?_getD, List.getD_eq_getElem?_getD, List.getElem?_drop]
theorem many_no {l : List Pst} (h : ∀ x ∈ l, x.2.length ≤ 4096) : manyUp l l.length = false := manyUp_iff.2 fun _ hi => h _ (pAt_mem hi)
theorem okAt_no {l : List Pst} {i : Nat} (h : (pAt l i).1 ≤ lastD l i) : okAt l i = false := by
  rcases Bool.eq_false_or_eq_true (okAt l i) with h1 | h1
  · have := (okAt_iff.1 h1).2.2.1
    omega
  · exact h1
theorem check_twice {l : List Pst} (h : ValidP l) {k : Nat} (hk : k < l.length) : 4096 < (l.take (k + 1) ++ l.drop k).length ∨ checkP (l.take (k + 1) ++ l.drop k) = 1 := by
  obtain ⟨L, hL⟩ : ∃ L, L = l.take (k + 1) ++ l.drop k := ⟨_, rfl⟩
  have hlen : L.length = l.length + 1 := by rw [hL, List.length_append, List.length_take, List.length_drop]; omega
  have htl : (l.take (k + 1)).length = k + 1 := by rw [List.length_take]; omega
  have hmem : ∀ x ∈ L, x ∈ l := fun x hx => by
    rw [hL] at hx
    rcases List.mem_append.1 hx with h | h
    · exact List.mem_of_mem_take h
    · exact List.mem_of_mem_drop h
  have e1 : pAt L k = pAt l k := by rw [hL, pAt_left (by omega), pAt_take (by omega)]
  have e2 : pAt L (k + 1) = pAt l k := by rw [hL, pAt_right (by omega), htl, pAt_drop]; simp
  rw [← hL]
  rcases Nat.lt_or_ge 4096 L.length with h1 | h1
  · exact .inl h1
  · refine .inr (check_bad h1 (many_no fun x hx => h.spots x (hmem x hx)) (k := k + 1) (by omega) (okAt_no ?_))
    unfold lastD
    rw [if_neg (by omega), e2, Nat.add_sub_cancel, e1]
    exact Int.le_refl _
theorem check_none {l : List Pst} (h : ValidP l) {k : Nat} (hk : k < l.length) (d : Int) : checkP (l.set k (d, [])) = 1 := by
  refine check_bad (by rw [List.length_set]; exact h.few) ?_ (k := k) (by rw [List.length_set]; exact hk) ?_
  · refine many_no fun x hx => ?_
    rcases List.mem_or_eq_of_mem_set hx with h1 | rfl
    · exact h.spots x h1
    · simp
  · have e : pAt (l.set k (d, [])) k = (d, []) := by
      unfold pAt
      rw [List.getD_eq_getElem?_getD, List.getElem?_set_self hk]
      rfl
    rcases Bool.eq_false_or_eq_true (okAt (l.set k (d, [])) k) with h1 | h1
    · have := (okAt_iff.1 h1).2.2.2.1
      rw [e] at this
      simp at this
    · exact h1
theorem check_late {l : List Pst} (h : ValidP l) {k : Nat} (hk : k < l.length) (h0 : 0 < k) : checkP ([pAt l k] ++ l.take k) = 1 := by
  obtain ⟨L, hL⟩ : ∃ L, L = [pAt l k] ++ l.take k := ⟨_, rfl⟩
  have hlen : L.length = k + 1 := by rw [hL, List.length_append, List.length_take]; simp; omega
  have hmem : ∀ x ∈ L, x ∈ l := fun x hx => by
    rw [hL] at hx
    rcases List.mem_append.1 hx with h1 | h1
    · rw [List.mem_singleton.1 h1]; exact pAt_mem hk
    · exact List.mem_of_mem_take h1
  have e0 : pAt L 0 = pAt l k := by rw [hL]; rfl
  have e1 : pAt L 1 = pAt l 0 := by rw [hL, pAt_right (by simp), pAt_take (by simp; omega)]; rfl
  rw [← hL]
  refine check_bad (by have := h.few; omega) (many_no fun x hx => h.spots x (hmem x hx)) (k := 1) (by omega) (okAt_no ?_)
  unfold lastD
  rw [if_neg (by omega), e1, Nat.sub_self, e0]
  exact docs_mono h (Nat.zero_le _) hk
theorem check_first {l : List Pst} (hf : FitP l) (h : ValidP l) (hk : 0 < l.length) : checkP ([pAt l 0] ++ l.take 0) = 0 := by
  have e : [pAt l 0] ++ l.take 0 = l.take 1 := by
    cases l with
    | nil => simp at hk
    | cons x r => simp [pAt]
  rw [e]
  exact (check_ok (fun x hx => hf x (List.mem_of_mem_take hx))).2 (h.take 1)
end Go.Proofs.Ytkligdaademakaa
namespace Go.Proofs.Ytkligdaademakaa

theorem skipN_spec (l : List Pst) (d : Int) : ∀ (f a : Nat), f = l.length - a → a ≤ l.length → (∀ i, a ≤ i → i < skipN l d f a → (pAt l i).1 < d) ∧ (skipN l d f a < l.length → d ≤ (pAt l (skipN l d f a)).1)
  | 0, a, hf, ha => by
    simp only [skipN]
    exact ⟨fun i h1 h2 => by omega, fun h => by omega⟩
  | f + 1, a, hf, ha => by
    simp only [skipN]
    split
    · rename_i hc
      obtain ⟨h1, h2⟩ := skipN_spec l d f (a + 1) (by omega) (by omega)
      refine ⟨fun i h3 h4 => ?_, h2⟩
      rcases Nat.eq_or_lt_of_le h3 with rfl | h5
      · exact hc.2
      · exact h1 i h5 h4
    · rename_i hc
      refine ⟨fun i h1 h2 => by omega, fun h => ?_⟩
      by_cases h3 : (pAt l a).1 < d
      · exact absurd ⟨h, h3⟩ hc
      · omega
/-- The first place from a on whose Doc is d or greater. -/
def firstN (l : List Pst) (d : Int) (a : Nat) : Nat := skipN l d (l.length - a) a
structure IsFirst (l : List Pst) (d : Int) (a p : Nat) : Prop where
  from_ : a ≤ p
  upto : p ≤ l.length
  less : ∀ i, a ≤ i → i < p → (pAt l i).1 < d
  here : p < l.length → d ≤ (pAt l p).1
theorem firstN_is {l : List Pst} {d : Int} {a : Nat} (ha : a ≤ l.length) : IsFirst l d a (firstN l d a) := by
  have h1 := skipN_le l d (l.length - a) a ha
  have h2 := skipN_spec l d (l.length - a) a rfl ha
  exact ⟨h1.1, h1.2, h2.1, h2.2⟩
theorem IsFirst.unique {l : List Pst} {d : Int} {a p q : Nat} (h : IsFirst l d a p) (k : IsFirst l d a q) : p = q := by
  rcases Nat.lt_trichotomy p q with h1 | h1 | h1
  · have h2 := k.less p h.from_ h1
    have h3 := h.here (by have := k.upto; omega)
    omega
  · exact h1
  · have h2 := h.less q k.from_ h1
    have h3 := k.here (by have := h.upto; omega)
    omega
theorem IsFirst.eq {l : List Pst} {d : Int} {a p : Nat} (h : IsFirst l d a p) (ha : a ≤ l.length) : firstN l d a = p := (firstN_is ha).unique h
theorem first_twice {l : List Pst} (hV : ValidP l) {a b : Int} {k : Nat} (hk : k ≤ l.length) : firstN l b (firstN l a k) = firstN l (max a b) k := by
  have h1 := firstN_is (d := a) hk
  have h2 := firstN_is (l := l) (d := b) h1.upto
  refine (IsFirst.eq ⟨by have := h1.from_; have := h2.from_; omega, h2.upto, fun i h3 h4 => ?_, fun h3 => ?_⟩ hk).symm
  · rcases Nat.lt_or_ge i (firstN l a k) with h5 | h5
    · have := h1.less i h3 h5; omega
    · have := h2.less i h5 h4; omega
  · have h4 := h2.here h3
    have h5 := h1.here (by have := h2.from_; omega)
    have h6 := docs_mono hV h2.from_ h3
    omega
theorem cSkip_at (s : CSt) (d : Int) : (cSkip s d).at_ = firstN s.l d s.at_ := by
  unfold cSkip
  rw [(cStand_l _).2]
  rfl
theorem cStand_idem (s : CSt) : cStand (cStand s) = cStand s := by
  by_cases h : s.at_ < s.l.length ∧ ((s.at_ / 4 : Nat) : Int) ≠ s.last
  · have h1 : cStand s = { s with read := s.read + 1, last := (s.at_ / 4 : Nat) } := by unfold cStand; rw [if_pos h]
    rw [h1]
    unfold cStand
    rw [if_neg (fun h2 => h2.2 rfl)]
  · have h1 : cStand s = s := by unfold cStand; rw [if_neg h]
    rw [h1, h1]
/-- What it tells hangs on where it stands alone. -/
theorem same_tell {s t : CSt} (hl : s.l = t.l) (ha : s.at_ = t.at_) : cIn s = cIn t ∧ cDoc s = cDoc t ∧ cSpots s = cSpots t := by
  unfold cIn cDoc cSpots
  rw [hl, ha]
  exact ⟨rfl, rfl, rfl⟩
theorem skip_still {s : CSt} (h : CWF s) (hs : cStand s = s) : cSkip s (cDoc s) = s := by
  have h1 : firstN s.l (cDoc s) s.at_ = s.at_ := by
    refine IsFirst.eq ⟨Nat.le_refl _, h.at_, fun i h1 h2 => by omega, fun h1 => ?_⟩ h.at_
    unfold cDoc
    rw [if_pos h1]
    exact Int.le_refl _
  unfold cSkip
  unfold firstN at h1
  rw [h1]
  exact hs
theorem cSkip_stands (s : CSt) (d : Int) : cStand (cSkip s d) = cSkip s d := cStand_idem _
theorem cNext_stands (s : CSt) : cStand (cNext s) = cNext s := cStand_idem _
theorem doc_fits {l : List Pst} (hV : ValidP l) {s : CSt} (h : s.l = l) : fits64 (cDoc s) := by
  unfold cDoc
  rw [h]
  split
  · rename_i h1
    have := hV.docs _ (pAt_mem h1)
    unfold fits64
    omega
  · unfold fits64; omega
theorem valid_of {x : List UInt8} {l : List Pst} (hg : getP x = (l, 0)) : ValidP l := by
  have h1 := getP_some (b := x) (by rw [hg])
  have h2 := getP_fit (b := x)
  rw [hg] at h1 h2
  exact (check_ok h2).1 h1.1
end Go.Proofs.Ytkligdaademakaa
