/- Frames: a text with its length and its sum; both ways. -/
import Derived.Test.YtdmhaaplgkilpaaLMath
import Derived.Test.YtdmhaaplgkilpaaCMath
namespace Go.Proofs.Ytdmhaaplgkilpaa

def le4 (s : Nat) : List UInt8 := [UInt8.ofNat (s % 256), UInt8.ofNat (s / 256 % 256), UInt8.ofNat (s / 65536 % 256), UInt8.ofNat (s / 16777216 % 256)]
def un4 (l : List UInt8) : Nat := (l.getD 0 0).toNat + 256 * (l.getD 1 0).toNat + 65536 * (l.getD 2 0).toNat + 16777216 * (l.getD 3 0).toNat
theorem un4_le4 {s : Nat} (h : s < 4294967296) (more : List UInt8) : un4 (le4 s ++ more) = s := by
  simp only [le4, un4, List.cons_append, List.nil_append, List.getD_cons_zero, List.getD_cons_succ]
  rw [ofNat_toNat (by omega), ofNat_toNat (by omega), ofNat_toNat (by omega), ofNat_toNat (by omega)]
  omega
theorem un4_lt (l : List UInt8) : un4 l < 4294967296 := by
  unfold un4
  have h0 := (l.getD 0 0).toNat_lt
  have h1 := (l.getD 1 0).toNat_lt
  have h2 := (l.getD 2 0).toNat_lt
  have h3 := (l.getD 3 0).toNat_lt
  omega
theorem le4_un4 (a b c d : UInt8) (r : List UInt8) : le4 (un4 (a :: b :: c :: d :: r)) = [a, b, c, d] := by
  have h0 := a.toNat_lt
  have h1 := b.toNat_lt
  have h2 := c.toNat_lt
  have h3 := d.toNat_lt
  simp only [le4, un4, List.getD_cons_zero, List.getD_cons_succ]
  congr 1
  · apply UInt8.toNat_inj.1
    rw [ofNat_toNat (by omega)]
    omega
  · congr 1
    · apply UInt8.toNat_inj.1
      rw [ofNat_toNat (by omega)]
      omega
    · congr 1
      · apply UInt8.toNat_inj.1
        rw [ofNat_toNat (by omega)]
        omega
      · congr 1
        apply UInt8.toNat_inj.1
        rw [ofNat_toNat (by omega)]
        omega
theorem le4_len (s : Nat) : (le4 s).length = 4 := rfl
theorem four {l : List UInt8} (h : 4 ≤ l.length) : ∃ a b c d r, l = a :: b :: c :: d :: r := by
  match l, h with
  | a :: b :: c :: d :: r, _ => exact ⟨a, b, c, d, r, rfl⟩
theorem sumN_lt (l : List UInt8) : sumN l < 4294967296 := moreN_lt (by decide) l

/-- A text's frame. -/
def putF (b : List UInt8) : List UInt8 := putL b.length ++ (le4 (sumN b) ++ b)
/-- What stands in the frame that bytes begin with. -/
def getF (c : List UInt8) : List UInt8 × Nat × Int :=
  if (getL c).2.2 ≠ 0 then ([], 0, (getL c).2.2)
  else if 262144 < (getL c).1 then ([], 0, 32)
  else if c.length < (getL c).2.1 + 4 + (getL c).1 then ([], 0, 31)
  else if sumN ((c.drop ((getL c).2.1 + 4)).take (getL c).1) ≠ un4 (c.drop (getL c).2.1) then ([], 0, 41)
  else ((c.drop ((getL c).2.1 + 4)).take (getL c).1, (getL c).2.1 + 4 + (getL c).1, 0)
theorem putF_len (b : List UInt8) : (putF b).length = (putL b.length).length + 4 + b.length := by
  simp only [putF, List.length_append, le4_len]
  omega
theorem putF_pos (b : List UInt8) : 0 < (putF b).length := by rw [putF_len]; omega
theorem getF_put (b : List UInt8) (hb : b.length ≤ 262144) (more : List UInt8) : getF (putF b ++ more) = (b, (putF b).length, 0) := by
  have hg : getL (putF b ++ more) = (b.length, (putL b.length).length, 0) := by
    unfold putF
    rw [List.append_assoc]
    exact getL_put (by omega) _
  have h1 : (putF b ++ more).drop (putL b.length).length = le4 (sumN b) ++ (b ++ more) := by
    unfold putF
    rw [List.append_assoc, List.append_assoc]
    simp
  have h2 : (putF b ++ more).drop ((putL b.length).length + 4) = b ++ more := by
    rw [← List.drop_drop, h1]
    rfl
  unfold getF
  rw [hg]
  simp only
  rw [if_neg (by simp), if_neg (by omega), if_neg (by rw [List.length_append, putF_len]; omega), h1, h2, un4_le4 (sumN_lt b)]
  rw [List.take_append_of_le_length (Nat.le_refl _), List.take_length, if_neg (by simp), putF_len]
theorem getF_inv {c x : List UInt8} {m : Nat} (h : getF c = (x, m, 0)) : 0 < m ∧ m ≤ c.length ∧ c.take m = putF x ∧ x.length ≤ 262144 := by
  unfold getF at h
  rcases hg : getL c with ⟨n, k, e⟩
  rw [hg] at h
  simp only at h
  split at h
  · rename_i he
    simp only [Prod.mk.injEq] at h
    exact absurd h.2.2 he
  rename_i he
  have he0 : e = 0 := by simpa using he
  subst he0
  split at h
  · simp at h
  rename_i hn
  split at h
  · simp at h
  rename_i hl
  split at h
  · simp at h
  rename_i hs
  simp only [Prod.mk.injEq, and_true] at h
  obtain ⟨hx, rfl⟩ := h
  obtain ⟨g1, g2, g3, g4, g5⟩ := getL_inv hg
  have hxl : x.length = n := by rw [← hx]; simp; omega
  refine ⟨by omega, by omega, ?_, by omega⟩
  obtain ⟨a, b, c', d, r, hd⟩ := four (l := c.drop k) (by simp; omega)
  have hd4 : c.drop (k + 4) = r := by rw [← List.drop_drop, hd]; rfl
  have hs' : sumN x = un4 (c.drop k) := by
    rw [← hx]
    exact Decidable.not_not.1 hs
  have e1 : c.take (k + 4 + n) = c.take k ++ (c.drop k).take (4 + n) := by rw [Nat.add_assoc, List.take_add]
  rw [e1, g4, putF, hxl]
  congr 1
  rw [hs', hd, le4_un4, Nat.add_comm 4 n]
  simp only [List.take_succ_cons]
  rw [hd4] at hx
  rw [hx]
  rfl
theorem getF_err (c : List UInt8) : (getF c).2.2 = 0 ∨ (getF c).1 = [] ∧ (getF c).2.1 = 0 := by
  unfold getF
  split
  · simp
  · split
    · simp
    · split
      · simp
      · split
        · simp
        · simp
theorem getF_step {c : List UInt8} (h : (getF c).2.2 = 0) : 0 < (getF c).2.1 ∧ (getF c).2.1 ≤ c.length ∧ (getF c).1.length ≤ 262144 := by
  rcases hg : getF c with ⟨x, m, e⟩
  rw [hg] at h
  simp only at h
  subst h
  obtain ⟨h1, h2, _, h4⟩ := getF_inv hg
  exact ⟨h1, h2, h4⟩
/-- A frame that is cut. -/
theorem getF_cut (b : List UInt8) (hb : b.length ≤ 262144) {k : Nat} (hk : k < (putF b).length) : getF ((putF b).take k) = ([], 0, 31) := by
  rcases Nat.lt_or_ge k (putL b.length).length with h | h
  · have e : (putF b).take k = (putL b.length).take k := by
      unfold putF
      rw [List.take_append_of_le_length (by omega)]
    have hg := getL_cut (n := b.length) (by omega) h
    unfold getF
    rw [e, hg]
    simp
  · have e : (putF b).take k = putL b.length ++ (le4 (sumN b) ++ b).take (k - (putL b.length).length) := by
      unfold putF
      rw [List.take_append, List.take_of_length_le h]
    have hg : getL ((putF b).take k) = (b.length, (putL b.length).length, 0) := by
      rw [e]
      exact getL_put (by omega) _
    unfold getF
    rw [hg]
    simp only
    rw [putF_len] at hk
    rw [if_neg (by simp), if_neg (by omega), if_pos (by rw [List.length_take, putF_len]; omega)]
/-- A frame of which one byte behind the number is changed. -/
theorem getF_turned (b : List UInt8) (hb : b.length ≤ 262144) {k : Nat} {x y : UInt8} (hk : (putL b.length).length ≤ k) (hx : (putF b)[k]? = some x) (hy : y ≠ x) : getF ((putF b).set k y) = ([], 0, 41) := by
  have hkl := (List.getElem?_eq_some_iff.1 hx).1
  rw [putF_len] at hkl
  obtain ⟨j, rfl⟩ : ∃ j, k = (putL b.length).length + j := ⟨k - (putL b.length).length, by omega⟩
  have e : (putF b).set ((putL b.length).length + j) y = putL b.length ++ (le4 (sumN b) ++ b).set j y := by
    unfold putF
    rw [List.set_append_right _ _ (by omega), Nat.add_sub_cancel_left]
  have hxj : (le4 (sumN b) ++ b)[j]? = some x := by
    unfold putF at hx
    rw [List.getElem?_append_right (by omega), Nat.add_sub_cancel_left] at hx
    exact hx
  have hg : getL ((putF b).set ((putL b.length).length + j) y) = (b.length, (putL b.length).length, 0) := by
    rw [e]
    exact getL_put (by omega) _
  have h1 : ((putF b).set ((putL b.length).length + j) y).drop (putL b.length).length = (le4 (sumN b) ++ b).set j y := by
    rw [e]
    simp
  unfold getF
  rw [hg]
  simp only
  rw [if_neg (by simp), if_neg (by omega), if_neg (by rw [List.length_set, putF_len]; omega), ← List.drop_drop, h1, if_pos]
  rcases Nat.lt_or_ge j 4 with hj | hj
  · have e2 : (le4 (sumN b) ++ b).set j y = (le4 (sumN b)).set j y ++ b := by rw [List.set_append_left _ _ (by rw [le4_len]; exact hj)]
    have e3 : ((le4 (sumN b)).set j y ++ b).drop 4 = b := by
      rw [List.drop_append_of_le_length (by simp [le4_len]), List.drop_of_length_le (by simp [le4_len])]
      rfl
    rw [e2, e3, List.take_length]
    rw [List.getElem?_append_left (by rw [le4_len]; exact hj)] at hxj
    intro hs
    have h4 := le4_un4
    have h5 : le4 (sumN b) = (le4 (sumN b)).set j y := by
      obtain ⟨p, q, r, s, t, ht⟩ := four (l := (le4 (sumN b)).set j y) (by simp [le4_len])
      have hlen : ((le4 (sumN b)).set j y).length = 4 := by simp [le4_len]
      rw [ht] at hs hlen ⊢
      have ht0 : t = [] := List.eq_nil_of_length_eq_zero (by simpa using hlen)
      subst ht0
      rw [hs, List.cons_append, List.cons_append, List.cons_append, List.cons_append, h4]
    have h6 : ((le4 (sumN b)).set j y)[j]? = some y := by rw [List.getElem?_set_self (by rw [le4_len]; exact hj)]
    rw [← h5, hxj] at h6
    exact hy (Option.some.inj h6).symm
  · obtain ⟨i, rfl⟩ : ∃ i, j = 4 + i := ⟨j - 4, by omega⟩
    have e2 : (le4 (sumN b) ++ b).set (4 + i) y = le4 (sumN b) ++ b.set i y := by rw [List.set_append_right _ _ (by rw [le4_len]; omega), le4_len, Nat.add_sub_cancel_left]
    have e3 : (le4 (sumN b) ++ b.set i y).drop 4 = b.set i y := rfl
    rw [e2, e3, un4_le4 (sumN_lt b), List.take_of_length_le (by simp)]
    rw [List.getElem?_append_right (by rw [le4_len]; omega), le4_len, Nat.add_sub_cancel_left] at hxj
    exact turned b i x y hxj hy

/-- What stands in all of the frames, one behind the other. -/
def allAux : Nat → List UInt8 → List (List UInt8) → List (List UInt8) × Int
  | 0, _, acc => (acc, 0)
  | f + 1, c, acc => if c.length = 0 then (acc, 0) else if (getF c).2.2 ≠ 0 then ([], (getF c).2.2) else allAux f (c.drop (getF c).2.1) (acc ++ [(getF c).1])
def allF (c : List UInt8) : List (List UInt8) × Int := allAux c.length c []
/-- .. in those that are whole. -/
def wholeAux : Nat → Nat → List UInt8 → List (List UInt8) → List (List UInt8) × Nat
  | 0, at_, _, acc => (acc, at_)
  | f + 1, at_, c, acc => if c.length = 0 then (acc, at_) else if (getF c).2.2 ≠ 0 then (acc, at_) else wholeAux f (at_ + (getF c).2.1) (c.drop (getF c).2.1) (acc ++ [(getF c).1])
def wholeF (c : List UInt8) : List (List UInt8) × Nat := wholeAux c.length 0 c []

def Short (L : List (List UInt8)) : Prop := ∀ x ∈ L, x.length ≤ 262144
theorem allAux_put (L : List (List UInt8)) (hL : Short L) : ∀ (f : Nat) (c : List UInt8) (acc : List (List UInt8)), (L.flatMap putF).length + c.length ≤ f → ∃ f', c.length ≤ f' ∧ allAux f (L.flatMap putF ++ c) acc = allAux f' c (acc ++ L) := by
  induction L with
  | nil => intro f c acc hf; exact ⟨f, by simpa using hf, by simp⟩
  | cons x r ih =>
    intro f c acc hf
    simp only [List.flatMap_cons, List.length_append] at hf
    have hp := putF_pos x
    cases f with
    | zero => omega
    | succ f =>
      have hg := getF_put x (hL x (List.mem_cons_self ..)) (r.flatMap putF ++ c)
      obtain ⟨f', h1, h2⟩ := ih (fun y hy => hL y (List.mem_cons_of_mem _ hy)) f c (acc ++ [x]) (by omega)
      refine ⟨f', h1, ?_⟩
      simp only [List.flatMap_cons, List.append_assoc, allAux, hg]
      rw [if_neg (by simp only [List.length_append]; omega), if_neg (by simp)]
      rw [List.drop_append_of_le_length (Nat.le_refl _), List.drop_length, List.nil_append, h2]
      simp
theorem allF_put (L : List (List UInt8)) (hL : Short L) : allF (L.flatMap putF) = (L, 0) := by
  obtain ⟨f', _, h2⟩ := allAux_put L hL (L.flatMap putF).length [] [] (by simp)
  rw [List.append_nil] at h2
  unfold allF
  rw [h2]
  cases f' <;> simp [allAux]
theorem wholeAux_put (L : List (List UInt8)) (hL : Short L) : ∀ (f at_ : Nat) (c : List UInt8) (acc : List (List UInt8)), (L.flatMap putF).length + c.length ≤ f → ∃ f', c.length ≤ f' ∧ wholeAux f at_ (L.flatMap putF ++ c) acc = wholeAux f' (at_ + (L.flatMap putF).length) c (acc ++ L) := by
  induction L with
  | nil => intro f at_ c acc hf; exact ⟨f, by simpa using hf, by simp⟩
  | cons x r ih =>
    intro f at_ c acc hf
    simp only [List.flatMap_cons, List.length_append] at hf
    have hp := putF_pos x
    cases f with
    | zero => omega
    | succ f =>
      have hg := getF_put x (hL x (List.mem_cons_self ..)) (r.flatMap putF ++ c)
      obtain ⟨f', h1, h2⟩ := ih (fun y hy => hL y (List.mem_cons_of_mem _ hy)) f (at_ + (putF x).length) c (acc ++ [x]) (by omega)
      refine ⟨f', h1, ?_⟩
      simp only [List.flatMap_cons, List.append_assoc, wholeAux, hg, List.length_append]
      rw [if_neg (by omega), if_neg (by simp)]
      rw [List.drop_append_of_le_length (Nat.le_refl _), List.drop_length, List.nil_append, h2]
      simp [Nat.add_assoc]
theorem wholeAux_up : ∀ (f at_ : Nat) (c : List UInt8) (acc : List (List UInt8)), at_ ≤ (wholeAux f at_ c acc).2 ∧ ∃ r, (wholeAux f at_ c acc).1 = acc ++ r
  | 0, at_, c, acc => ⟨Nat.le_refl _, [], by simp [wholeAux]⟩
  | f + 1, at_, c, acc => by
    simp only [wholeAux]
    split
    · exact ⟨Nat.le_refl _, [], by simp⟩
    · split
      · exact ⟨Nat.le_refl _, [], by simp⟩
      · obtain ⟨h1, r, h2⟩ := wholeAux_up f (at_ + (getF c).2.1) (c.drop (getF c).2.1) (acc ++ [(getF c).1])
        exact ⟨by omega, [(getF c).1] ++ r, by rw [h2, List.append_assoc]⟩
theorem wholeF_put (L : List (List UInt8)) (hL : Short L) (c : List UInt8) : (L.flatMap putF).length ≤ (wholeF (L.flatMap putF ++ c)).2 ∧ ∃ r, (wholeF (L.flatMap putF ++ c)).1 = L ++ r := by
  obtain ⟨f', _, h2⟩ := wholeAux_put L hL (L.flatMap putF ++ c).length 0 c [] (by simp)
  unfold wholeF
  rw [h2]
  obtain ⟨h3, r, h4⟩ := wholeAux_up f' (0 + (L.flatMap putF).length) c ([] ++ L)
  exact ⟨by omega, r, by rw [h4]; rfl⟩
/-- Frames, and then bytes that are none. -/
theorem allF_bad (L : List (List UInt8)) (hL : Short L) (c : List UInt8) {e : Int} (hc : c ≠ []) (h : getF c = ([], 0, e)) (he : e ≠ 0) : allF (L.flatMap putF ++ c) = ([], e) := by
  obtain ⟨f', h1, h2⟩ := allAux_put L hL (L.flatMap putF ++ c).length c [] (by simp)
  unfold allF
  rw [h2]
  have hl : c.length ≠ 0 := fun e0 => hc (List.eq_nil_of_length_eq_zero e0)
  cases f' with
  | zero => omega
  | succ f' => simp only [allAux, h]; rw [if_neg hl, if_pos he]
theorem wholeF_bad (L : List (List UInt8)) (hL : Short L) (c : List UInt8) {e : Int} (hc : c ≠ []) (h : getF c = ([], 0, e)) (he : e ≠ 0) : wholeF (L.flatMap putF ++ c) = (L, (L.flatMap putF).length) := by
  obtain ⟨f', h1, h2⟩ := wholeAux_put L hL (L.flatMap putF ++ c).length 0 c [] (by simp)
  unfold wholeF
  rw [h2]
  have hl : c.length ≠ 0 := fun e0 => hc (List.eq_nil_of_length_eq_zero e0)
  cases f' with
  | zero => omega
  | succ f' => simp only [wholeAux, h]; rw [if_neg hl, if_pos he]; simp
end Go.Proofs.Ytdmhaaplgkilpaa
