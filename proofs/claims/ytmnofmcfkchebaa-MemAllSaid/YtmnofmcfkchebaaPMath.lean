/- Postings as bytes, and what bytes are. Postings as bytes: how long; two alike; which there are. Are postings valid; the postings of bytes. -/
import Derived.Test.YtmnofmcfkchebaaLMath2
namespace Go.Proofs.Ytmnofmcfkchebaa

abbrev Pst := Int × List (Int × Int)
def poss (s : List (Int × Int)) : List Int := s.map (·.1)
def atss (s : List (Int × Int)) : List Int := s.map (·.2)
def pAt (l : List Pst) (i : Nat) : Pst := l.getD i (0, [])
/-- The Doc ahead of a place. -/
def lastD (l : List Pst) (i : Nat) : Int := if i = 0 then -1 else (pAt l (i - 1)).1
def unitB (l : List Pst) (i : Nat) : List UInt8 := putL ((pAt l i).1 - lastD l i - 1).toNat ++ (putR (poss (pAt l i).2) ++ putR (atss (pAt l i).2))
/-- The bytes of k places from a on. -/
def cat (f : Nat → List UInt8) (a : Nat) : Nat → List UInt8
  | 0 => []
  | k + 1 => cat f a k ++ f (a + k)
def headB (l : List Pst) (f t : Nat) (b : List UInt8) : List UInt8 := putL ((pAt l (t - 1)).1 - lastD l f - 1).toNat ++ putL b.length
def blockB (l : List Pst) (i : Nat) : List UInt8 := headB l i (min l.length (i + 4)) (cat (unitB l) i (min l.length (i + 4) - i))
def linB (l : List Pst) (i : Nat) : List UInt8 := (if i % 4 = 0 then blockB l i else []) ++ unitB l i
def groupB (l : List Pst) (i : Nat) : List UInt8 := headB l i (min l.length (i + 16)) (cat (linB l) i (min l.length (i + 16) - i))
def lin (l : List Pst) (i : Nat) : List UInt8 := (if i % 16 = 0 then groupB l i else []) ++ linB l i
def putP (l : List Pst) : List UInt8 := putL l.length ++ cat (lin l) 0 l.length

theorem cat_cons (f : Nat → List UInt8) (a k : Nat) : cat f a (k + 1) = f a ++ cat f (a + 1) k := by
  induction k with
  | zero => simp [cat]
  | succ k ih =>
    rw [cat, ih, cat, List.append_assoc, show a + (k + 1) = a + 1 + k by omega]
theorem cat_add (f : Nat → List UInt8) (a j k : Nat) : cat f a (j + k) = cat f a j ++ cat f (a + j) k := by
  induction k with
  | zero => simp [cat]
  | succ k ih => rw [← Nat.add_assoc, cat, ih, cat, List.append_assoc, show a + (j + k) = a + j + k by omega]
theorem cat_congr {f g : Nat → List UInt8} {a k : Nat} (h : ∀ i, a ≤ i → i < a + k → f i = g i) : cat f a k = cat g a k := by
  induction k with
  | zero => rfl
  | succ k ih => rw [cat, cat, ih fun i h1 h2 => h i h1 (by omega), h (a + k) (by omega) (by omega)]
theorem len_cat (f : Nat → List UInt8) (a k m : Nat) (h : ∀ i, a ≤ i → i < a + k → (f i).length ≤ m) : (cat f a k).length ≤ m * k := by
  induction k with
  | zero => simp [cat]
  | succ k ih =>
    have h1 := ih fun i h2 h3 => h i h2 (by omega)
    have h2 := h (a + k) (by omega) (by omega)
    rw [cat, List.length_append, Nat.mul_succ]
    omega
/-- A block's bytes with its head are its places' bytes, the first one with the head. -/
theorem cat_block (l : List Pst) {i k : Nat} (hi : i % 4 = 0) (hk : 0 < k) (hk4 : k ≤ 4) : cat (linB l) i k = blockB l i ++ cat (unitB l) i k := by
  obtain ⟨k, rfl⟩ : ∃ q, k = q + 1 := ⟨k - 1, by omega⟩
  rw [cat_cons, cat_cons, linB, if_pos hi, List.append_assoc]
  congr 2
  exact cat_congr fun j h1 h2 => by rw [linB, if_neg (by omega)]; rfl
theorem cat_group (l : List Pst) {i k : Nat} (hi : i % 16 = 0) (hk : 0 < k) (hk4 : k ≤ 16) : cat (lin l) i k = groupB l i ++ cat (linB l) i k := by
  obtain ⟨k, rfl⟩ : ∃ q, k = q + 1 := ⟨k - 1, by omega⟩
  rw [cat_cons, cat_cons, lin, if_pos hi, List.append_assoc]
  congr 2
  exact cat_congr fun j h1 h2 => by rw [lin, if_neg (by omega)]; rfl

/-- Valid postings. -/
structure ValidP (l : List Pst) : Prop where
  few : l.length ≤ 4096
  spots : ∀ x ∈ l, x.2.length ≤ 4096
  some : ∀ x ∈ l, 0 < x.2.length
  docs : ∀ x ∈ l, 0 ≤ x.1 ∧ x.1 ≤ 4294967296
  up : ∀ i, i < l.length → lastD l i < (pAt l i).1
  pos : ∀ x ∈ l, rises (-1) (poss x.2) = true
  at_ : ∀ x ∈ l, rises (-1) (atss x.2) = true
  fit : ∀ x ∈ l, ∀ s ∈ x.2, s.1 ≤ 9223372036854775807 ∧ s.2 ≤ 9223372036854775807
theorem pAt_mem {l : List Pst} {i : Nat} (h : i < l.length) : pAt l i ∈ l := by
  unfold pAt
  rw [List.getD_eq_getElem?_getD, List.getElem?_eq_getElem h]
  exact List.getElem_mem h
theorem ValidP.last {l : List Pst} (h : ValidP l) {i : Nat} (hi : i ≤ l.length) : -1 ≤ lastD l i ∧ lastD l i ≤ 4294967296 := by
  unfold lastD
  split
  · omega
  · have := h.docs _ (pAt_mem (show i - 1 < l.length by omega))
    omega
theorem poss_le {s : List (Int × Int)} (h : ∀ x ∈ s, x.1 ≤ 9223372036854775807 ∧ x.2 ≤ 9223372036854775807) : (∀ y ∈ poss s, y ≤ 9223372036854775807) ∧ ∀ y ∈ atss s, y ≤ 9223372036854775807 := by
  constructor
  · intro y hy
    obtain ⟨x, hx, rfl⟩ := List.mem_map.1 hy
    exact (h x hx).1
  · intro y hy
    obtain ⟨x, hx, rfl⟩ := List.mem_map.1 hy
    exact (h x hx).2
theorem poss_len (s : List (Int × Int)) : (poss s).length = s.length ∧ (atss s).length = s.length := by simp [poss, atss]
theorem spots_eq {s t : List (Int × Int)} (h1 : poss s = poss t) (h2 : atss s = atss t) : s = t := by
  induction s generalizing t with
  | nil => cases t with
    | nil => rfl
    | cons y t => simp [poss] at h1
  | cons x s ih =>
    cases t with
    | nil => simp [poss] at h1
    | cons y t =>
      simp only [poss, atss, List.map_cons, List.cons.injEq] at h1 h2
      rw [ih h1.2 h2.2, Prod.ext h1.1 h2.1]
theorem putR_inj {a b : List Int} (ha : a.length ≤ 4096) (hb : b.length ≤ 4096) (ra : rises (-1) a = true) (rb : rises (-1) b = true) (fa : ∀ x ∈ a, x ≤ 9223372036854775807) (fb : ∀ x ∈ b, x ≤ 9223372036854775807) {x y : List UInt8} (h : putR a ++ x = putR b ++ y) : a = b ∧ x = y := by
  have h1 := getR_put a (by omega) ra fa x 4096 (by omega)
  have h2 := getR_put b (by omega) rb fb y 4096 (by omega)
  rw [h, h2] at h1
  have h3 := congrArg Prod.fst h1
  simp only at h3
  subst h3
  exact ⟨rfl, List.append_cancel_left h⟩
/-- Of one place: what comes ahead of what. -/
theorem unit_inj {l m : List Pst} (hl : ValidP l) (hm : ValidP m) {i : Nat} (h1 : i < l.length) (h2 : i < m.length) (hd : lastD l i = lastD m i) {x y : List UInt8} (h : unitB l i ++ x = unitB m i ++ y) : pAt l i = pAt m i ∧ x = y := by
  unfold unitB at h
  simp only [List.append_assoc] at h
  have q1 := hl.docs _ (pAt_mem h1)
  have q2 := hm.docs _ (pAt_mem h2)
  have u1 := hl.up i h1
  have u2 := hm.up i h2
  have w1 := hl.last (Nat.le_of_lt h1)
  have w2 := hm.last (Nat.le_of_lt h2)
  obtain ⟨e1, h⟩ := putL_inj (by omega) (by omega) h
  have p1 := poss_le (hl.fit _ (pAt_mem h1))
  have p2 := poss_le (hm.fit _ (pAt_mem h2))
  have s1 := hl.spots _ (pAt_mem h1)
  have s2 := hm.spots _ (pAt_mem h2)
  have n1 := poss_len (pAt l i).2
  have n2 := poss_len (pAt m i).2
  obtain ⟨e2, h⟩ := putR_inj (by omega) (by omega) (hl.pos _ (pAt_mem h1)) (hm.pos _ (pAt_mem h2)) p1.1 p2.1 h
  obtain ⟨e3, h⟩ := putR_inj (by omega) (by omega) (hl.at_ _ (pAt_mem h1)) (hm.at_ _ (pAt_mem h2)) p1.2 p2.2 h
  exact ⟨Prod.ext (by omega) (spots_eq e2 e3), h⟩
theorem head_val {l : List Pst} (hl : ValidP l) {f t : Nat} (ht : t ≤ l.length) (hf : f ≤ l.length) : ((pAt l (t - 1)).1 - lastD l f - 1).toNat < 2 ^ 64 := by
  have w1 := hl.last hf
  rcases Nat.eq_zero_or_pos l.length with h0 | h0
  · have : l = [] := List.eq_nil_of_length_eq_zero h0
    subst this
    simp [pAt]
    omega
  · have := hl.docs _ (pAt_mem (show t - 1 < l.length by omega))
    omega
end Go.Proofs.Ytmnofmcfkchebaa
namespace Go.Proofs.Ytmnofmcfkchebaa

theorem putGapsR_len (l : List Int) : ∀ p : Int, -1 ≤ p → rises p l = true → (∀ x ∈ l, x ≤ 9223372036854775807) → (putGaps (gaps p l)).length ≤ 10 * l.length := by
  induction l with
  | nil => intro p _ _ _; simp [gaps, putGaps]
  | cons x l ih =>
    intro p hp hr h
    simp only [rises, Bool.and_eq_true, decide_eq_true_eq] at hr
    have hx := h x (List.mem_cons_self ..)
    have h1 := putL_len (x - p - 1).toNat (by omega)
    have := ih x (by omega) hr.2 fun y hy => h y (List.mem_cons_of_mem _ hy)
    simp only [gaps, putGaps, List.flatMap_cons, List.length_append, List.length_cons] at this ⊢
    omega
theorem putR_len {l : List Int} (hn : l.length ≤ 4096) (hr : rises (-1) l = true) (h : ∀ x ∈ l, x ≤ 9223372036854775807) : (putR l).length ≤ 40970 := by
  have h1 := putGapsR_len l (-1) (by omega) hr h
  have h2 := putL_len l.length (by omega)
  unfold putR
  rw [List.length_append]
  omega
theorem unit_len {l : List Pst} (hl : ValidP l) {i : Nat} (hi : i < l.length) : (unitB l i).length ≤ 90000 := by
  have p1 := poss_le (hl.fit _ (pAt_mem hi))
  have n1 := poss_len (pAt l i).2
  have s1 := hl.spots _ (pAt_mem hi)
  have h1 := putR_len (by omega) (hl.pos _ (pAt_mem hi)) p1.1
  have h2 := putR_len (by omega) (hl.at_ _ (pAt_mem hi)) p1.2
  have q1 := hl.docs _ (pAt_mem hi)
  have w1 := hl.last (Nat.le_of_lt hi)
  have h3 := putL_len ((pAt l i).1 - lastD l i - 1).toNat (by omega)
  unfold unitB
  simp only [List.length_append]
  omega
theorem units_len {l : List Pst} (hl : ValidP l) {i k : Nat} (h : i + k ≤ l.length) : (cat (unitB l) i k).length ≤ 90000 * k := len_cat _ _ _ _ fun j h1 h2 => unit_len hl (by omega)
theorem block_len {l : List Pst} (hl : ValidP l) {i : Nat} (hi : i < l.length) : (blockB l i).length ≤ 20 := by
  have h1 := units_len hl (i := i) (k := min l.length (i + 4) - i) (by omega)
  unfold blockB headB
  have h2 := putL_len _ (head_val hl (f := i) (t := min l.length (i + 4)) (by omega) (by omega))
  have h3 := putL_len (cat (unitB l) i (min l.length (i + 4) - i)).length (by omega)
  rw [List.length_append]
  omega
theorem linB_len {l : List Pst} (hl : ValidP l) {i : Nat} (hi : i < l.length) : (linB l i).length ≤ 90020 := by
  have h1 := unit_len hl hi
  have h2 := block_len hl hi
  unfold linB
  rw [List.length_append]
  split
  · omega
  · simp; omega
theorem linBs_len {l : List Pst} (hl : ValidP l) {i k : Nat} (h : i + k ≤ l.length) : (cat (linB l) i k).length ≤ 90020 * k := len_cat _ _ _ _ fun j h1 h2 => linB_len hl (by omega)
theorem group_len {l : List Pst} (hl : ValidP l) {i : Nat} (hi : i < l.length) : (groupB l i).length ≤ 20 := by
  have h1 := linBs_len hl (i := i) (k := min l.length (i + 16) - i) (by omega)
  unfold groupB headB
  have h2 := putL_len _ (head_val hl (f := i) (t := min l.length (i + 16)) (by omega) (by omega))
  have h3 := putL_len (cat (linB l) i (min l.length (i + 16) - i)).length (by omega)
  rw [List.length_append]
  omega
theorem lin_len {l : List Pst} (hl : ValidP l) {i : Nat} (hi : i < l.length) : (lin l i).length ≤ 90040 := by
  have h1 := linB_len hl hi
  have h2 := group_len hl hi
  unfold lin
  rw [List.length_append]
  split
  · omega
  · simp; omega
theorem lins_len {l : List Pst} (hl : ValidP l) {i k : Nat} (h : i + k ≤ l.length) : (cat (lin l) i k).length ≤ 90040 * k := len_cat _ _ _ _ fun j h1 h2 => lin_len hl (by omega)
theorem putP_len {l : List Pst} (hl : ValidP l) : (putP l).length ≤ 368803860 := by
  have h1 := lins_len hl (i := 0) (k := l.length) (by omega)
  have h2 := hl.few
  have h3 := putL_len l.length (by omega)
  unfold putP
  rw [List.length_append]
  omega

/-- Two heads: whatever they say, what comes behind both is alike. -/
theorem head_inj {a b c d : Nat} (ha : a < 2 ^ 64) (hb : b < 2 ^ 64) (hc : c < 2 ^ 64) (hd : d < 2 ^ 64) {x y : List UInt8} (h : putL a ++ putL b ++ x = putL c ++ putL d ++ y) : x = y := by
  rw [List.append_assoc, List.append_assoc] at h
  obtain ⟨_, h⟩ := putL_inj ha hc h
  exact (putL_inj hb hd h).2
theorem lin_inj {l m : List Pst} (hl : ValidP l) (hm : ValidP m) {i : Nat} (h1 : i < l.length) (h2 : i < m.length) (hd : lastD l i = lastD m i) {x y : List UInt8} (h : lin l i ++ x = lin m i ++ y) : pAt l i = pAt m i ∧ x = y := by
  have b1 := units_len hl (i := i) (k := min l.length (i + 4) - i) (by omega)
  have b2 := units_len hm (i := i) (k := min m.length (i + 4) - i) (by omega)
  have g1 := linBs_len hl (i := i) (k := min l.length (i + 16) - i) (by omega)
  have g2 := linBs_len hm (i := i) (k := min m.length (i + 16) - i) (by omega)
  have hb : linB l i ++ x = linB m i ++ y := by
    unfold lin at h
    by_cases h16 : i % 16 = 0
    · rw [if_pos h16, if_pos h16, List.append_assoc, List.append_assoc] at h
      exact head_inj (head_val hl (by omega) (by omega)) (by omega) (head_val hm (by omega) (by omega)) (by omega) h
    · rw [if_neg h16, if_neg h16] at h
      exact h
  have hu : unitB l i ++ x = unitB m i ++ y := by
    unfold linB at hb
    by_cases h4 : i % 4 = 0
    · rw [if_pos h4, if_pos h4, List.append_assoc, List.append_assoc] at hb
      exact head_inj (head_val hl (by omega) (by omega)) (by omega) (head_val hm (by omega) (by omega)) (by omega) hb
    · rw [if_neg h4, if_neg h4] at hb
      exact hb
  exact unit_inj hl hm h1 h2 hd hu
theorem lins_inj {l m : List Pst} (hl : ValidP l) (hm : ValidP m) (hn : l.length = m.length) {x y : List UInt8} : ∀ (k i : Nat), i + k = l.length → (∀ j, j < i → pAt l j = pAt m j) → cat (lin l) i k ++ x = cat (lin m) i k ++ y → (∀ j, j < l.length → pAt l j = pAt m j) ∧ x = y
  | 0, i, hi, hp, h => by
    refine ⟨fun j hj => hp j (by omega), ?_⟩
    simpa [cat] using h
  | k + 1, i, hi, hp, h => by
    rw [cat_cons, cat_cons, List.append_assoc, List.append_assoc] at h
    have hd : lastD l i = lastD m i := by
      unfold lastD
      split
      · rfl
      · rw [hp (i - 1) (by omega)]
    obtain ⟨h1, h2⟩ := lin_inj hl hm (by omega) (by omega) hd h
    exact lins_inj hl hm hn k (i + 1) (by omega) (fun j hj => by
      rcases Nat.lt_or_ge j i with h3 | h3
      · exact hp j h3
      · obtain rfl : j = i := by omega
        exact h1) h2
theorem pAt_ext {l m : List Pst} (hn : l.length = m.length) (h : ∀ j, j < l.length → pAt l j = pAt m j) : l = m := by
  refine List.ext_getElem hn fun i h1 h2 => ?_
  have := h i h1
  unfold pAt at this
  rw [List.getD_eq_getElem?_getD, List.getD_eq_getElem?_getD, List.getElem?_eq_getElem h1, List.getElem?_eq_getElem h2] at this
  exact this
/-- No valid postings' bytes begin others. -/
theorem putP_inj {l m : List Pst} (hl : ValidP l) (hm : ValidP m) {x y : List UInt8} (h : putP l ++ x = putP m ++ y) : l = m ∧ x = y := by
  unfold putP at h
  rw [List.append_assoc, List.append_assoc] at h
  have f1 := hl.few
  have f2 := hm.few
  obtain ⟨hn, h⟩ := putL_inj (by omega) (by omega) h
  rw [← hn] at h
  obtain ⟨h1, h2⟩ := lins_inj hl hm hn l.length 0 (by omega) (fun j hj => by omega) h
  exact ⟨pAt_ext hn h1, h2⟩
end Go.Proofs.Ytmnofmcfkchebaa
namespace Go.Proofs.Ytmnofmcfkchebaa

def okAt (l : List Pst) (i : Nat) : Bool := decide (0 ≤ (pAt l i).1) && (decide ((pAt l i).1 ≤ 4294967296) && (decide (lastD l i < (pAt l i).1) && (decide (0 < (pAt l i).2.length) && (rises (-1) (poss (pAt l i).2) && rises (-1) (atss (pAt l i).2)))))
def okUp (l : List Pst) : Nat → Bool
  | 0 => true
  | i + 1 => okUp l i && okAt l i
def manyUp (l : List Pst) : Nat → Bool
  | 0 => false
  | i + 1 => manyUp l i || decide (4096 < (pAt l i).2.length)
/-- The error of postings. -/
def checkP (l : List Pst) : Int := if 4096 < l.length then 2 else if manyUp l l.length then 2 else if okUp l l.length then 0 else 1
def FitP (l : List Pst) : Prop := ∀ x ∈ l, ∀ s ∈ x.2, s.1 ≤ 9223372036854775807 ∧ s.2 ≤ 9223372036854775807

theorem okUp_iff {l : List Pst} {n : Nat} : okUp l n = true ↔ ∀ i, i < n → okAt l i = true := by
  induction n with
  | zero => simp [okUp]
  | succ n ih =>
    rw [okUp, Bool.and_eq_true, ih]
    constructor
    · rintro ⟨h1, h2⟩ i hi
      rcases Nat.lt_or_ge i n with h | h
      · exact h1 i h
      · obtain rfl : i = n := by omega
        exact h2
    · exact fun h => ⟨fun i hi => h i (by omega), h n (by omega)⟩
theorem manyUp_iff {l : List Pst} {n : Nat} : manyUp l n = false ↔ ∀ i, i < n → (pAt l i).2.length ≤ 4096 := by
  induction n with
  | zero => simp [manyUp]
  | succ n ih =>
    rw [manyUp, Bool.or_eq_false_iff, ih, decide_eq_false_iff_not]
    constructor
    · rintro ⟨h1, h2⟩ i hi
      rcases Nat.lt_or_ge i n with h | h
      · exact h1 i h
      · obtain rfl : i = n := by omega
        omega
    · exact fun h => ⟨fun i hi => h i (by omega), by have := h n (by omega); omega⟩
theorem okAt_iff {l : List Pst} {i : Nat} : okAt l i = true ↔ 0 ≤ (pAt l i).1 ∧ (pAt l i).1 ≤ 4294967296 ∧ lastD l i < (pAt l i).1 ∧ 0 < (pAt l i).2.length ∧ rises (-1) (poss (pAt l i).2) = true ∧ rises (-1) (atss (pAt l i).2) = true := by
  unfold okAt
  simp only [Bool.and_eq_true, decide_eq_true_eq]
theorem pAt_of {l : List Pst} {x : Pst} (h : x ∈ l) : ∃ i, i < l.length ∧ pAt l i = x := by
  obtain ⟨i, hi, rfl⟩ := List.mem_iff_getElem.1 h
  exact ⟨i, hi, by unfold pAt; rw [List.getD_eq_getElem?_getD, List.getElem?_eq_getElem hi]; rfl⟩
theorem check_ok {l : List Pst} (hf : FitP l) : checkP l = 0 ↔ ValidP l := by
  unfold checkP
  constructor
  · intro h
    split at h
    · cases h
    · split at h
      · cases h
      · split at h
        · rename_i h1 h2 h3
          have h2 := manyUp_iff.1 (by simpa using h2)
          have h3 := okUp_iff.1 h3
          have at1 : ∀ x ∈ l, ∃ i, i < l.length ∧ pAt l i = x ∧ okAt l i = true := fun x hx => by
            obtain ⟨i, hi, e⟩ := pAt_of hx
            exact ⟨i, hi, e, h3 i hi⟩
          exact {
            few := by omega
            spots := fun x hx => by obtain ⟨i, hi, rfl, _⟩ := at1 x hx; exact h2 i hi
            some := fun x hx => by obtain ⟨i, hi, rfl, h⟩ := at1 x hx; exact (okAt_iff.1 h).2.2.2.1
            docs := fun x hx => by obtain ⟨i, hi, rfl, h⟩ := at1 x hx; exact ⟨(okAt_iff.1 h).1, (okAt_iff.1 h).2.1⟩
            up := fun i hi => (okAt_iff.1 (h3 i hi)).2.2.1
            pos := fun x hx => by obtain ⟨i, hi, rfl, h⟩ := at1 x hx; exact (okAt_iff.1 h).2.2.2.2.1
            at_ := fun x hx => by obtain ⟨i, hi, rfl, h⟩ := at1 x hx; exact (okAt_iff.1 h).2.2.2.2.2
            fit := hf }
        · cases h
  · intro h
    have h1 := h.few
    rw [if_neg (by omega), if_neg, if_pos]
    · exact okUp_iff.2 fun i hi => okAt_iff.2 ⟨(h.docs _ (pAt_mem hi)).1, (h.docs _ (pAt_mem hi)).2, h.up i hi, h.some _ (pAt_mem hi), h.pos _ (pAt_mem hi), h.at_ _ (pAt_mem hi)⟩
    · rw [manyUp_iff.2 fun i hi => h.spots _ (pAt_mem hi)]
      simp

def past1 (b : List UInt8) (n : Nat) : Nat := if (getL (b.drop n)).2.2 = 0 then n + (getL (b.drop n)).2.1 else n
/-- Behind two numbers, if they are there. -/
def pastB (b : List UInt8) (n : Nat) : Nat := past1 b (past1 b n)
/-- Where the numbers of a place begin. -/
def skipB (b : List UInt8) (i n : Nat) : Nat := if i % 4 = 0 then pastB b (if i % 16 = 0 then pastB b n else n) else (if i % 16 = 0 then pastB b n else n)
/-- One posting's numbers at a place: how far its Doc is, its spots, where it ends. -/
def rdOne (b : List UInt8) (n : Nat) : Option (Nat × List (Int × Int) × Nat) :=
  if (getL (b.drop n)).2.2 ≠ 0 ∨ 4294967296 < (getL (b.drop n)).1 then none
  else
    if (getR (b.drop (n + (getL (b.drop n)).2.1)) 4096).2.2 ≠ 0 then none
    else
      if (getR (b.drop (n + (getL (b.drop n)).2.1 + (getR (b.drop (n + (getL (b.drop n)).2.1)) 4096).2.1)) 4096).2.2 ≠ 0 ∨ (getR (b.drop (n + (getL (b.drop n)).2.1 + (getR (b.drop (n + (getL (b.drop n)).2.1)) 4096).2.1)) 4096).1.length ≠ (getR (b.drop (n + (getL (b.drop n)).2.1)) 4096).1.length then none
      else some ((getL (b.drop n)).1, (getR (b.drop (n + (getL (b.drop n)).2.1)) 4096).1.zip (getR (b.drop (n + (getL (b.drop n)).2.1 + (getR (b.drop (n + (getL (b.drop n)).2.1)) 4096).2.1)) 4096).1,
        n + (getL (b.drop n)).2.1 + (getR (b.drop (n + (getL (b.drop n)).2.1)) 4096).2.1 + (getR (b.drop (n + (getL (b.drop n)).2.1 + (getR (b.drop (n + (getL (b.drop n)).2.1)) 4096).2.1)) 4096).2.1)
/-- The first postings of bytes, and where they end. -/
def rdUp (b : List UInt8) (n0 : Nat) : Nat → Option (List Pst × Nat × Int)
  | 0 => some ([], n0, -1)
  | i + 1 => match rdUp b n0 i with
    | none => none
    | some (l, n, doc) => match rdOne b (skipB b i n) with
      | none => none
      | some (d, s, n2) => some (l ++ [(doc + d + 1, s)], n2, doc + d + 1)
def getP (b : List UInt8) : List Pst × Int :=
  if (getL b).2.2 ≠ 0 ∨ 4096 < (getL b).1 then ([], 3)
  else match rdUp b (getL b).2.1 (getL b).1 with
    | none => ([], 3)
    | some (l, _, _) => if checkP l = 0 ∧ putP l = b then (l, 0) else ([], 3)

theorem past_head {b : List UInt8} {n : Nat} {u v : Nat} {r : List UInt8} (hu : u < 2 ^ 64) (hv : v < 2 ^ 64) (h : b.drop n = putL u ++ putL v ++ r) : pastB b n = n + (putL u ++ putL v).length ∧ b.drop (pastB b n) = r := by
  have h1 : getL (b.drop n) = (u, (putL u).length, 0) := by rw [h, List.append_assoc]; exact getL_put hu _
  have e1 : past1 b n = n + (putL u).length := by unfold past1; rw [h1]; simp
  have h2 : b.drop (n + (putL u).length) = putL v ++ r := by rw [← List.drop_drop, h, List.append_assoc, getL_drop]
  have h3 : getL (b.drop (n + (putL u).length)) = (v, (putL v).length, 0) := by rw [h2]; exact getL_put hv _
  have e2 : pastB b n = n + (putL u).length + (putL v).length := by
    unfold pastB
    rw [e1]
    unfold past1
    rw [h3]
    simp
  refine ⟨by rw [e2, List.length_append]; omega, ?_⟩
  rw [e2, ← List.drop_drop, h2, getL_drop]
theorem zip_spots (s : List (Int × Int)) : (poss s).zip (atss s) = s := by
  induction s with
  | nil => rfl
  | cons x s ih =>
    simp only [poss, atss, List.map_cons, List.zip_cons_cons] at ih ⊢
    rw [ih]
theorem rdOne_put {l : List Pst} (hl : ValidP l) {i : Nat} (hi : i < l.length) {b : List UInt8} {n : Nat} {r : List UInt8} (h : b.drop n = unitB l i ++ r) :
    rdOne b n = some (((pAt l i).1 - lastD l i - 1).toNat, (pAt l i).2, n + (unitB l i).length) ∧ b.drop (n + (unitB l i).length) = r := by
  have q1 := hl.docs _ (pAt_mem hi)
  have w1 := hl.last (Nat.le_of_lt hi)
  have u1 := hl.up i hi
  have p1 := poss_le (hl.fit _ (pAt_mem hi))
  have n1 := poss_len (pAt l i).2
  have s1 := hl.spots _ (pAt_mem hi)
  have h0 := h
  obtain ⟨d, hd⟩ : ∃ d, d = ((pAt l i).1 - lastD l i - 1).toNat := ⟨_, rfl⟩
  obtain ⟨P, hP⟩ : ∃ P, P = poss (pAt l i).2 := ⟨_, rfl⟩
  obtain ⟨Q, hQ⟩ : ∃ Q, Q = atss (pAt l i).2 := ⟨_, rfl⟩
  have e0 : unitB l i = putL d ++ (putR P ++ putR Q) := by unfold unitB; rw [← hd, ← hP, ← hQ]
  rw [e0, List.append_assoc] at h
  have g1 : getL (b.drop n) = (d, (putL d).length, 0) := by rw [h]; exact getL_put (by omega) _
  have h2 : b.drop (n + (putL d).length) = putR P ++ (putR Q ++ r) := by rw [← List.drop_drop, h, getL_drop, List.append_assoc]
  have g2 : getR (b.drop (n + (putL d).length)) 4096 = (P, (putR P).length, 0) := by
    rw [h2]
    exact getR_put P (by rw [hP]; omega) (by rw [hP]; exact hl.pos _ (pAt_mem hi)) (by rw [hP]; exact p1.1) _ _ (by rw [hP]; omega)
  have h3 : b.drop (n + (putL d).length + (putR P).length) = putR Q ++ r := by rw [← List.drop_drop, h2, List.drop_left]
  have g3 : getR (b.drop (n + (putL d).length + (putR P).length)) 4096 = (Q, (putR Q).length, 0) := by
    rw [h3]
    exact getR_put Q (by rw [hQ]; omega) (by rw [hQ]; exact hl.at_ _ (pAt_mem hi)) (by rw [hQ]; exact p1.2) _ _ (by rw [hQ]; omega)
  constructor
  · unfold rdOne
    simp only [g1, g2, g3]
    rw [if_neg (by simp; omega), if_neg (by simp), if_neg (by rw [hP, hQ]; simp; omega), hP, hQ, zip_spots, ← hP, ← hQ, e0, ← hd]
    simp only [List.length_append, Option.some.injEq, Prod.mk.injEq, true_and]
    omega
  · rw [← List.drop_drop, h0, List.drop_left]
theorem skip_put {l : List Pst} (hl : ValidP l) {i : Nat} (hi : i < l.length) {b : List UInt8} {n : Nat} {r : List UInt8} (h : b.drop n = lin l i ++ r) : b.drop (skipB b i n) = unitB l i ++ r ∧ skipB b i n + (unitB l i).length = n + (lin l i).length := by
  have b1 := units_len hl (i := i) (k := min l.length (i + 4) - i) (by omega)
  have g1 := linBs_len hl (i := i) (k := min l.length (i + 16) - i) (by omega)
  obtain ⟨n1, hn1⟩ : ∃ n1, n1 = if i % 16 = 0 then pastB b n else n := ⟨_, rfl⟩
  have hb : b.drop n1 = linB l i ++ r ∧ n1 + (linB l i).length = n + (lin l i).length := by
    unfold lin at h ⊢
    by_cases h16 : i % 16 = 0
    · rw [if_pos h16] at h hn1 ⊢
      rw [List.append_assoc] at h
      obtain ⟨e1, e2⟩ := past_head (head_val hl (by omega) (by omega)) (by omega) h
      rw [hn1]
      refine ⟨e2, ?_⟩
      rw [e1]
      unfold groupB headB
      simp only [List.length_append]
      omega
    · rw [if_neg h16] at h hn1 ⊢
      rw [hn1]
      exact ⟨h, by simp⟩
  have hs : skipB b i n = if i % 4 = 0 then pastB b n1 else n1 := by rw [hn1]; rfl
  rw [hs]
  obtain ⟨hb1, hb2⟩ := hb
  unfold linB at hb1 hb2
  by_cases h4 : i % 4 = 0
  · rw [if_pos h4] at hb1 hb2 ⊢
    rw [List.append_assoc] at hb1
    obtain ⟨e1, e2⟩ := past_head (head_val hl (by omega) (by omega)) (by omega) hb1
    refine ⟨e2, ?_⟩
    rw [e1, ← hb2]
    unfold blockB headB
    simp only [List.length_append]
    omega
  · rw [if_neg h4] at hb1 hb2 ⊢
    exact ⟨hb1, by rw [← hb2]; simp⟩
theorem rdUp_put {l : List Pst} (hl : ValidP l) {b : List UInt8} {n0 : Nat} (hb : b.drop n0 = cat (lin l) 0 l.length) : ∀ i, i ≤ l.length → rdUp b n0 i = some (l.take i, n0 + (cat (lin l) 0 i).length, lastD l i)
  | 0, _ => by simp [rdUp, cat, lastD]
  | i + 1, hi => by
    have ih := rdUp_put hl hb i (by omega)
    have hx := pAt_mem (show i < l.length by omega)
    have hd : b.drop (n0 + (cat (lin l) 0 i).length) = lin l i ++ cat (lin l) (i + 1) (l.length - (i + 1)) := by
      have e := cat_add (lin l) 0 i (l.length - i)
      rw [show i + (l.length - i) = l.length by omega, Nat.zero_add] at e
      rw [← List.drop_drop, hb, e, List.drop_left, show l.length - i = (l.length - (i + 1)) + 1 by omega, cat_cons]
    obtain ⟨h1, h2⟩ := skip_put hl (by omega) hd
    obtain ⟨h3, _⟩ := rdOne_put hl (by omega) h1
    have u1 := hl.up i (by omega)
    unfold rdUp
    rw [ih]
    simp only [h3]
    have e1 : lastD l i + (((pAt l i).1 - lastD l i - 1).toNat : Int) + 1 = (pAt l i).1 := by omega
    have e2 : lastD l (i + 1) = (pAt l i).1 := by unfold lastD; rw [if_neg (by omega)]; rfl
    have e3 : l.take (i + 1) = l.take i ++ [pAt l i] := by
      rw [List.take_add_one]
      unfold pAt
      rw [List.getD_eq_getElem?_getD, List.getElem?_eq_getElem (by omega)]
      rfl
    rw [e1, e2, e3, h2, cat, List.length_append, Nat.zero_add]
    simp only [Option.some.injEq, Prod.mk.injEq]
    exact ⟨trivial, by omega, trivial⟩
theorem getP_put {l : List Pst} (hl : ValidP l) : getP (putP l) = (l, 0) := by
  have f1 := hl.few
  have h1 : getL (putP l) = (l.length, (putL l.length).length, 0) := by unfold putP; exact getL_put (by omega) _
  have h2 : (putP l).drop (putL l.length).length = cat (lin l) 0 l.length := by unfold putP; rw [getL_drop]
  unfold getP
  rw [h1]
  simp only
  rw [if_neg (by simp; omega), rdUp_put hl h2 l.length (Nat.le_refl _)]
  simp only [List.take_length]
  rw [if_pos ⟨(check_ok hl.fit).2 hl, trivial⟩]
theorem getP_some {b : List UInt8} (h : (getP b).2 = 0) : checkP (getP b).1 = 0 ∧ putP (getP b).1 = b := by
  unfold getP at h ⊢
  split at h
  · cases h
  · rename_i h1
    rw [if_neg h1]
    split at h
    · cases h
    · rename_i l n d h2
      split at h
      · rename_i h3
        rw [if_pos h3]
        exact h3
      · cases h
theorem getP_err (b : List UInt8) : (getP b).2 = 0 ∨ getP b = ([], 3) := by
  unfold getP
  split
  · exact .inr rfl
  · split
    · exact .inr rfl
    · split
      · exact .inl rfl
      · exact .inr rfl
end Go.Proofs.Ytmnofmcfkchebaa
