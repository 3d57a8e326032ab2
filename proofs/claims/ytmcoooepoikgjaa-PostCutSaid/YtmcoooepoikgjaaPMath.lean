/- Postings as bytes, and what bytes are. -/
import Derived.Test.YtmcoooepoikgjaaLMath2
namespace Go.Proofs.Ytmcoooepoikgjaa

abbrev Pst := Int × List (Int × Int)
def poss (s : List (Int × Int)) : List Int := s.map (·.1)
def atss (s : List (Int × Int)) : List Int := s.map (·.2)
def pAt (l : List Pst) (i : Nat) : Pst := l.getD i (0, [])
/-- The Doc ahead of a place. -/
def lastD (l : List Pst) (i : Nat) : Int := if i = 0 then -1 else (pAt l (i - 1)).1
def unitB (l : List Pst) (i : Nat) : List UInt8 := putL ((pAt l i).1 - lastD l i - 1).toNat ++ (putR (poss (pAt l i).2) ++ putR (atss (pAt l i).2))
/-- The bytes of k places from a on. -/
def cat (f : Nat → List UInt8) (a : Nat) : Nat → List UInt8
  | 0 => []
  | k + 1 => cat f a k ++ f (a + k)
def headB (l : List Pst) (f t : Nat) (b : List UInt8) : List UInt8 := putL ((pAt l (t - 1)).1 - lastD l f - 1).toNat ++ putL b.length
def blockB (l : List Pst) (i : Nat) : List UInt8 := headB l i (min l.length (i + 4)) (cat (unitB l) i (min l.length (i + 4) - i))
def linB (l : List Pst) (i : Nat) : List UInt8 := (if i % 4 = 0 then blockB l i else []) ++ unitB l i
def groupB (l : List Pst) (i : Nat) : List UInt8 := headB l i (min l.length (i + 16)) (cat (linB l) i (min l.length (i + 16) - i))
def lin (l : List Pst) (i : Nat) : List UInt8 := (if i % 16 = 0 then groupB l i else []) ++ linB l i
def putP (l : List Pst) : List UInt8 := putL l.length ++ cat (lin l) 0 l.length

theorem cat_cons (f : Nat → List UInt8) (a k : Nat) : cat f a (k + 1) = f a ++ cat f (a + 1) k := by
  induction k with
  | zero => simp [cat]
  | succ k ih =>
    rw [cat, ih, cat, List.append_assoc, show a + (k + 1) = a + 1 + k by omega]
theorem cat_add (f : Nat → List UInt8) (a j k : Nat) : cat f a (j + k) = cat f a j ++ cat f (a + j) k := by
  induction k with
  | zero => simp [cat]
  | succ k ih => rw [← Nat.add_assoc, cat, ih, cat, List.append_assoc, show a + (j + k) = a + j + k by omega]
theorem cat_congr {f g : Nat → List UInt8} {a k : Nat} (h : ∀ i, a ≤ i → i < a + k → f i = g i) : cat f a k = cat g a k := by
  induction k with
  | zero => rfl
  | succ k ih => rw [cat, cat, ih fun i h1 h2 => h i h1 (by omega), h (a + k) (by omega) (by omega)]
theorem len_cat (f : Nat → List UInt8) (a k m : Nat) (h : ∀ i, a ≤ i → i < a + k → (f i).length ≤ m) : (cat f a k).length ≤ m * k := by
  induction k with
  | zero => simp [cat]
  | succ k ih =>
    have h1 := ih fun i h2 h3 => h i h2 (by omega)
    have h2 := h (a + k) (by omega) (by omega)
    rw [cat, List.length_append, Nat.mul_succ]
    omega
/-- A block's bytes with its head are its places' bytes, the first one with the head. -/
theorem cat_block (l : List Pst) {i k : Nat} (hi : i % 4 = 0) (hk : 0 < k) (hk4 : k ≤ 4) : cat (linB l) i k = blockB l i ++ cat (unitB l) i k := by
  obtain ⟨k, rfl⟩ : ∃ q, k = q + 1 := ⟨k - 1, by omega⟩
  rw [cat_cons, cat_cons, linB, if_pos hi, List.append_assoc]
  congr 2
  exact cat_congr fun j h1 h2 => by rw [linB, if_neg (by omega)]; rfl
theorem cat_group (l : List Pst) {i k : Nat} (hi : i % 16 = 0) (hk : 0 < k) (hk4 : k ≤ 16) : cat (lin l) i k = groupB l i ++ cat (linB l) i k := by
  obtain ⟨k, rfl⟩ : ∃ q, k = q + 1 := ⟨k - 1, by omega⟩
  rw [cat_cons, cat_cons, lin, if_pos hi, List.append_assoc]
  congr 2
  exact cat_congr fun j h1 h2 => by rw [lin, if_neg (by omega)]; rfl

/-- Valid postings. -/
structure ValidP (l : List Pst) : Prop where
  few : l.length ≤ 4096
  spots : ∀ x ∈ l, x.2.length ≤ 4096
  some : ∀ x ∈ l, 0 < x.2.length
  docs : ∀ x ∈ l, 0 ≤ x.1 ∧ x.1 ≤ 4294967296
  up : ∀ i, i < l.length → lastD l i < (pAt l i).1
  pos : ∀ x ∈ l, rises (-1) (poss x.2) = true
  at_ : ∀ x ∈ l, rises (-1) (atss x.2) = true
  fit : ∀ x ∈ l, ∀ s ∈ x.2, s.1 ≤ 9223372036854775807 ∧ s.2 ≤ 9223372036854775807
theorem pAt_mem {l : List Pst} {i : Nat} (h : i < l.length) : pAt l i ∈ l := by
  unfold pAt
  rw [List.getD_eq_getElem?_getD, List.getElem?_eq_getElem h]
  exact List.getElem_mem h
theorem ValidP.last {l : List Pst} (h : ValidP l) {i : Nat} (hi : i ≤ l.length) : -1 ≤ lastD l i ∧ lastD l i ≤ 4294967296 := by
  unfold lastD
  split
  · omega
  · have := h.docs _ (pAt_mem (show i - 1 < l.length by omega))
    omega
theorem poss_le {s : List (Int × Int)} (h : ∀ x ∈ s, x.1 ≤ 9223372036854775807 ∧ x.2 ≤ 9223372036854775807) : (∀ y ∈ poss s, y ≤ 9223372036854775807) ∧ ∀ y ∈ atss s, y ≤ 9223372036854775807 := by
  constructor
  · intro y hy
    obtain ⟨x, hx, rfl⟩ := List.mem_map.1 hy
    exact (h x hx).1
  · intro y hy
    obtain ⟨x, hx, rfl⟩ := List.mem_map.1 hy
    exact (h x hx).2
theorem poss_len (s : List (Int × Int)) : (poss s).length = s.length ∧ (atss s).length = s.length := by simp [poss, atss]
theorem spots_eq {s t : List (Int × Int)} (h1 : poss s = poss t) (h2 : atss s = atss t) : s = t := by
  induction s generalizing t with
  | nil => cases t with
    | nil => rfl
    | cons y t => simp [poss] at h1
  | cons x s ih =>
    cases t with
    | nil => simp [poss] at h1
    | cons y t =>
      simp only [poss, atss, List.map_cons, List.cons.injEq] at h1 h2
      rw [ih h1.2 h2.2, Prod.ext h1.1 h2.1]
theorem putR_inj {a b : List Int} (ha : a.length ≤ 4096) (hb : b.length ≤ 4096) (ra : rises (-1) a = true) (rb : rises (-1) b = true) (fa : ∀ x ∈ a, x ≤ 9223372036854775807) (fb : ∀ x ∈ b, x ≤ 9223372036854775807) {x y : List UInt8} (h : putR a ++ x = putR b ++ y) : a = b ∧ x = y := by
  have h1 := getR_put a (by omega) ra fa x 4096 (by omega)
  have h2 := getR_put b (by omega) rb fb y 4096 (by omega)
  rw [h, h2] at h1
  have h3 := congrArg Prod.fst h1
  simp only at h3
  subst h3
  exact ⟨rfl, List.append_cancel_left h⟩
/-- Of one place: what comes ahead of what. -/
theorem unit_inj {l m : List Pst} (hl : ValidP l) (hm : ValidP m) {i : Nat} (h1 : i < l.length) (h2 : i < m.length) (hd : lastD l i = lastD m i) {x y : List UInt8} (h : unitB l i ++ x = unitB m i ++ y) : pAt l i = pAt m i ∧ x = y := by
  unfold unitB at h
  simp only [List.append_assoc] at h
  have q1 := hl.docs _ (pAt_mem h1)
  have q2 := hm.docs _ (pAt_mem h2)
  have u1 := hl.up i h1
  have u2 := hm.up i h2
  have w1 := hl.last (Nat.le_of_lt h1)
  have w2 := hm.last (Nat.le_of_lt h2)
  obtain ⟨e1, h⟩ := putL_inj (by omega) (by omega) h
  have p1 := poss_le (hl.fit _ (pAt_mem h1))
  have p2 := poss_le (hm.fit _ (pAt_mem h2))
  have s1 := hl.spots _ (pAt_mem h1)
  have s2 := hm.spots _ (pAt_mem h2)
  have n1 := poss_len (pAt l i).2
  have n2 := poss_len (pAt m i).2
  obtain ⟨e2, h⟩ := putR_inj (by omega) (by omega) (hl.pos _ (pAt_mem h1)) (hm.pos _ (pAt_mem h2)) p1.1 p2.1 h
  obtain ⟨e3, h⟩ := putR_inj (by omega) (by omega) (hl.at_ _ (pAt_mem h1)) (hm.at_ _ (pAt_mem h2)) p1.2 p2.2 h
  exact ⟨Prod.ext (by omega) (spots_eq e2 e3), h⟩
theorem head_val {l : List Pst} (hl : ValidP l) {f t : Nat} (ht : t ≤ l.length) (hf : f ≤ l.length) : ((pAt l (t - 1)).1 - lastD l f - 1).toNat < 2 ^ 64 := by
  have w1 := hl.last hf
  rcases Nat.eq_zero_or_pos l.length with h0 | h0
  · have : l = [] := List.eq_nil_of_length_eq_zero h0
    subst this
    simp [pAt]
    omega
  · have := hl.docs _ (pAt_mem (show t - 1 < l.length by omega))
    omega
end Go.Proofs.Ytmcoooepoikgjaa
