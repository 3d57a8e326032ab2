/- Rising numbers as bytes, both ways; what a reader of bytes does. -/
import Derived.Test.YtdmhaaplgkilpaaLMath
namespace Go.Proofs.Ytdmhaaplgkilpaa

/-- How far each is behind the one ahead, less 1. -/
def gaps : Int → List Int → List Nat
  | _, [] => []
  | p, x :: r => (x - p - 1).toNat :: gaps x r
def rises : Int → List Int → Bool
  | _, [] => true
  | p, x :: r => decide (p < x) && rises x r
def putGaps (l : List Nat) : List UInt8 := l.flatMap putL
def putR (l : List Int) : List UInt8 := putL l.length ++ putGaps (gaps (-1) l)
/-- Rising numbers that bytes begin with: how many are left, the last one, the place, what is left, those so far. -/
def getRAux : Nat → Int → Nat → List UInt8 → List Int → List Int × Nat × Int
  | 0, _, at_, _, acc => (acc, at_, 0)
  | m + 1, p, at_, b, acc =>
    if (getL b).2.2 ≠ 0 then ([], 0, (getL b).2.2)
    else if 9223372036854775807 < p + (getL b).1 + 1 then ([], 0, 32)
    else getRAux m (p + (getL b).1 + 1) (at_ + (getL b).2.1) (b.drop (getL b).2.1) (acc ++ [p + (getL b).1 + 1])
def getR (b : List UInt8) (most : Int) : List Int × Nat × Int :=
  if (getL b).2.2 ≠ 0 then ([], 0, (getL b).2.2)
  else if most < 0 ∨ most < ((getL b).1 : Int) then ([], 0, 2)
  else getRAux (getL b).1 (-1) (getL b).2.1 (b.drop (getL b).2.1) []

theorem gaps_len (l : List Int) : ∀ p, (gaps p l).length = l.length := by
  induction l with
  | nil => intro p; rfl
  | cons x r ih => intro p; simp [gaps, ih x]
theorem getL_drop {n : Nat} (more : List UInt8) : (putL n ++ more).drop (putL n).length = more := by
  simp

theorem getRAux_put (l : List Int) : ∀ (p : Int) (at_ : Nat) (more : List UInt8) (acc : List Int), -1 ≤ p → rises p l = true → (∀ x ∈ l, x ≤ 9223372036854775807) →
    getRAux l.length p at_ (putGaps (gaps p l) ++ more) acc = (acc ++ l, at_ + (putGaps (gaps p l)).length, 0) := by
  induction l with
  | nil => intro p at_ more acc _ _ _; simp [getRAux, gaps, putGaps]
  | cons x r ih =>
    intro p at_ more acc hp hr hx
    simp only [rises, Bool.and_eq_true, decide_eq_true_eq] at hr
    have hxm := hx x (List.mem_cons_self ..)
    have hn : (x - p - 1).toNat < 2 ^ 64 := by omega
    have hg : getL (putGaps (gaps p (x :: r)) ++ more) = ((x - p - 1).toNat, (putL (x - p - 1).toNat).length, 0) := by
      simp only [gaps, putGaps, List.flatMap_cons, List.append_assoc]
      exact getL_put hn _
    simp only [List.length_cons, getRAux, hg]
    rw [if_neg (by simp), if_neg (by omega)]
    have e : p + (x - p - 1).toNat + 1 = x := by omega
    rw [e]
    have hd : (putGaps (gaps p (x :: r)) ++ more).drop (putL (x - p - 1).toNat).length = putGaps (gaps x r) ++ more := by
      simp only [gaps, putGaps, List.flatMap_cons, List.append_assoc]
      exact getL_drop _
    rw [hd, ih x _ more _ (by omega) hr.2 (fun y hy => hx y (List.mem_cons_of_mem _ hy))]
    simp only [gaps, putGaps, List.flatMap_cons, List.length_append, List.append_assoc, List.cons_append, List.nil_append]
    rw [Nat.add_assoc]
theorem getR_put (l : List Int) (hl : l.length < 2 ^ 63) (hr : rises (-1) l = true) (hx : ∀ x ∈ l, x ≤ 9223372036854775807) (more : List UInt8) (most : Int) (hm : (l.length : Int) ≤ most) :
    getR (putR l ++ more) most = (l, (putR l).length, 0) := by
  have hg : getL (putR l ++ more) = (l.length, (putL l.length).length, 0) := by
    unfold putR
    rw [List.append_assoc]
    exact getL_put (by omega) _
  unfold getR
  rw [hg]
  simp only
  rw [if_neg (by simp), if_neg (by omega)]
  have hd : (putR l ++ more).drop (putL l.length).length = putGaps (gaps (-1) l) ++ more := by
    unfold putR
    rw [List.append_assoc]
    exact getL_drop _
  rw [hd, getRAux_put l (-1) _ more [] (by omega) hr hx]
  simp [putR]

theorem getRAux_inv : ∀ (m : Nat) (p : Int) (at_ : Nat) (b : List UInt8) (acc : List Int) (l : List Int) (k : Nat), getRAux m p at_ b acc = (l, k, 0) → -1 ≤ p →
    ∃ r, l = acc ++ r ∧ r.length = m ∧ rises p r = true ∧ (∀ x ∈ r, x ≤ 9223372036854775807) ∧ at_ ≤ k ∧ k ≤ at_ + b.length ∧ b.take (k - at_) = putGaps (gaps p r)
  | 0, p, at_, b, acc, l, k, h, _ => by
    simp only [getRAux, Prod.mk.injEq, and_true] at h
    obtain ⟨rfl, rfl⟩ := h
    exact ⟨[], by simp, rfl, rfl, by simp, Nat.le_refl _, by omega, by simp [gaps, putGaps]⟩
  | m + 1, p, at_, b, acc, l, k, h, hp => by
    simp only [getRAux] at h
    split at h
    · rename_i he
      simp only [Prod.mk.injEq] at h
      exact absurd h.2.2 he
    · rename_i he
      split at h
      · simp at h
      · rename_i ho
        rcases hgl : getL b with ⟨n, j, e⟩
        rw [hgl] at h he ho
        simp only at h he ho
        have he0 : e = 0 := by
          rcases Int.lt_trichotomy e 0 with h1 | h1 | h1
          · exact absurd (show e ≠ 0 by omega) he
          · exact h1
          · exact absurd (show e ≠ 0 by omega) he
        subst he0
        obtain ⟨g1, g2, g3, g4, g5⟩ := getL_inv hgl
        obtain ⟨r, h1, h2, h3, h4, h5, h6, h7⟩ := getRAux_inv m _ _ _ _ l k h (by omega)
        refine ⟨(p + n + 1) :: r, by rw [h1]; simp, by simp [h2], by simp [rises, h3]; omega, fun x hx => ?_, by omega, by rw [List.length_drop] at h6; omega, ?_⟩
        · rcases List.mem_cons.1 hx with rfl | hx
          · omega
          · exact h4 x hx
        · have e1 : (p + n + 1 - p - 1).toNat = n := by omega
          simp only [gaps, putGaps, List.flatMap_cons, e1]
          have e2 : b = putL n ++ b.drop j := by rw [← g4, List.take_append_drop]
          have e3 : (putL n).length = j := by rw [← g4]; simp; omega
          rw [e2, List.take_append]
          rw [List.take_of_length_le (by omega), e3, show k - at_ - j = k - (at_ + j) by omega, h7]
          rfl
theorem getR_inv {b : List UInt8} {most : Int} {l : List Int} {k : Nat} (h : getR b most = (l, k, 0)) :
    rises (-1) l = true ∧ (∀ x ∈ l, x ≤ 9223372036854775807) ∧ k ≤ b.length ∧ b.take k = putR l ∧ (l.length : Int) ≤ most := by
  unfold getR at h
  split at h
  · rename_i he
    simp only [Prod.mk.injEq] at h
    exact absurd h.2.2 he
  · rename_i he
    split at h
    · simp at h
    · rename_i hm
      rcases hgl : getL b with ⟨n, j, e⟩
      rw [hgl] at h he hm
      simp only at h he hm
      have he0 : e = 0 := by
        rcases Int.lt_trichotomy e 0 with h1 | h1 | h1
        · exact absurd (show e ≠ 0 by omega) he
        · exact h1
        · exact absurd (show e ≠ 0 by omega) he
      subst he0
      obtain ⟨g1, g2, g3, g4, g5⟩ := getL_inv hgl
      obtain ⟨r, h1, h2, h3, h4, h5, h6, h7⟩ := getRAux_inv n _ _ _ _ l k h (by omega)
      rw [List.nil_append] at h1
      subst h1
      refine ⟨h3, h4, by rw [List.length_drop] at h6; omega, ?_, by rw [h2]; omega⟩
      have e2 : b = putL n ++ b.drop j := by rw [← g4, List.take_append_drop]
      have e3 : (putL n).length = j := by rw [← g4]; simp; omega
      rw [e2, List.take_append, List.take_of_length_le (by omega), e3, h7, putR, h2]
theorem getRAux_err : ∀ (m : Nat) (p : Int) (at_ : Nat) (b : List UInt8) (acc : List Int), (getRAux m p at_ b acc).2.2 = 0 ∨ (getRAux m p at_ b acc).1 = [] ∧ (getRAux m p at_ b acc).2.1 = 0
  | 0, p, at_, b, acc => by simp [getRAux]
  | m + 1, p, at_, b, acc => by
    simp only [getRAux]
    split
    · simp
    · split
      · simp
      · exact getRAux_err m _ _ _ _
theorem getR_err (b : List UInt8) (most : Int) : (getR b most).2.2 = 0 ∨ (getR b most).1 = [] ∧ (getR b most).2.1 = 0 := by
  unfold getR
  split
  · simp
  · split
    · simp
    · exact getRAux_err _ _ _ _ _
theorem rises_at (l : List Int) : ∀ p, rises p l = true ↔ ∀ (i : Nat) (x : Int), l[i]? = some x → (if i = 0 then p else l.getD (i - 1) 0) < x := by
  induction l with
  | nil => intro p; simp [rises]
  | cons y r ih =>
    intro p
    simp only [rises, Bool.and_eq_true, decide_eq_true_eq, ih y]
    constructor
    · rintro ⟨h1, h2⟩ i x hx
      cases i with
      | zero => simp at hx; subst hx; simpa using h1
      | succ i =>
        have h := h2 i x (by simpa using hx)
        rw [if_neg (by omega)]
        cases i with
        | zero => simpa using h
        | succ i => simpa using h
    · intro h
      refine ⟨by simpa using h 0 y rfl, fun i x hx => ?_⟩
      have := h (i + 1) x (by simpa using hx)
      cases i with
      | zero => simpa using this
      | succ i => simpa using this

/-- A reader: its bytes, its place, the first error. -/
structure Rd where
  bs : List UInt8
  p : Nat
  e : Int
def rInt (s : Rd) (most : Int) : Int × Rd :=
  if s.e ≠ 0 then (0, s)
  else if (getL (s.bs.drop s.p)).2.2 ≠ 0 then (0, { s with e := (getL (s.bs.drop s.p)).2.2 })
  else if most < 0 ∨ most < ((getL (s.bs.drop s.p)).1 : Int) then (0, { s with e := 32 })
  else ((getL (s.bs.drop s.p)).1, { s with p := s.p + (getL (s.bs.drop s.p)).2.1 })
def rBytes (s : Rd) (n : Int) : List UInt8 × Rd :=
  if s.e ≠ 0 ∨ n ≤ 0 then ([], s)
  else if (s.bs.length : Int) - s.p < n then ([], { s with e := 31 })
  else ((s.bs.drop s.p).take n.toNat, { s with p := s.p + n.toNat })
def rText (s : Rd) (most : Int) : List UInt8 × Rd := rBytes (rInt s most).2 (rInt s most).1
def rLeft (s : Rd) : Nat := if s.e ≠ 0 then 0 else s.bs.length - s.p
structure Rd.Ok (s : Rd) : Prop where
  place : s.p ≤ s.bs.length
theorem rInt_ok {s : Rd} (h : s.Ok) (most : Int) : (rInt s most).2.Ok ∧ (rInt s most).2.bs = s.bs := by
  unfold rInt
  split
  · exact ⟨h, rfl⟩
  · split
    · exact ⟨⟨h.place⟩, rfl⟩
    · split
      · exact ⟨⟨h.place⟩, rfl⟩
      · rename_i he _
        refine ⟨⟨?_⟩, rfl⟩
        rcases hg : getL (s.bs.drop s.p) with ⟨v, k, e⟩
        rw [hg] at he
        have he0 : e = 0 := by simpa using he
        subst he0
        have h3 := (getL_inv hg).2.2.1
        have := h.place
        simp only [List.length_drop] at h3 ⊢
        omega
theorem rBytes_ok {s : Rd} (h : s.Ok) (n : Int) : (rBytes s n).2.Ok ∧ (rBytes s n).2.bs = s.bs := by
  have := h.place
  unfold rBytes
  split
  · exact ⟨h, rfl⟩
  · split
    · exact ⟨⟨h.place⟩, rfl⟩
    · exact ⟨⟨by simp only; omega⟩, rfl⟩
theorem rText_ok {s : Rd} (h : s.Ok) (most : Int) : (rText s most).2.Ok ∧ (rText s most).2.bs = s.bs := by
  have h1 := rInt_ok h most
  have h2 := rBytes_ok h1.1 (rInt s most).1
  exact ⟨h2.1, h2.2.trans h1.2⟩
end Go.Proofs.Ytdmhaaplgkilpaa
