/- Chances rise, and miss nothing; strings, whether equal. -/
import Derived.Test.YtjnbilcanfhkjaaOLMath
import Derived.Laws.StructEq
namespace Go.Proofs.Ytjnbilcanfhkjaa
open Go.RowKit Go.Maps Go.WideMaps

theorem eqStr (x y : Nm) {r : Bool} (h : decide (x = y) = r) (w : World) : (binOp .eql 9 (.string ⟨x.toArray⟩) (.string ⟨y.toArray⟩)).run Try.prog w = .ok (.bool r) w := by
  subst h
  have e : (x == y) = decide (x = y) := by by_cases h : x = y <;> simp [h]
  rw [← e]
  simp only [binOp]
  simp [Op.stringOp]
def upTo (R : List Int) (x : Int) : Nat := (R.filter fun y => decide (y < x)).length
theorem upTo_le (R : List Int) (x : Int) : upTo R x ≤ R.length := List.length_filter_le _ _
theorem upTo_hit {x : Int} : ∀ {R : List Int}, R.Pairwise (· < ·) → x ∈ R → R[upTo R x]? = some x ∧ upTo R (x + 1) = upTo R x + 1
  | [], _, h => by cases h
  | y :: R, hp, h => by
    obtain ⟨h1, h2⟩ := List.pairwise_cons.1 hp
    rcases List.mem_cons.1 h with rfl | h3
    · have e1 : R.filter (fun y => decide (y < x)) = [] := List.filter_eq_nil_iff.2 fun z hz => by have := h1 z hz; simp; omega
      have e2 : R.filter (fun y => decide (y < x + 1)) = [] := List.filter_eq_nil_iff.2 fun z hz => by have := h1 z hz; simp; omega
      constructor
      · unfold upTo
        rw [List.filter_cons, e1]
        simp
      · unfold upTo
        rw [List.filter_cons, List.filter_cons, e1, e2, if_pos (by simp; omega), if_neg (by simp)]
        rfl
    · have h4 := h1 x h3
      obtain ⟨q1, q2⟩ := upTo_hit h2 h3
      have d1 : decide (y < x) = true := by simpa using h4
      have d2 : decide (y < x + 1) = true := by simp; omega
      unfold upTo at q1 q2 ⊢
      rw [List.filter_cons, List.filter_cons, if_pos d1, if_pos d2, List.length_cons, List.length_cons]
      exact ⟨by rw [List.getElem?_cons_succ]; exact q1, by omega⟩
theorem upTo_miss {R : List Int} {x : Int} (h : x ∉ R) : upTo R (x + 1) = upTo R x := by
  unfold upTo
  rw [List.filter_congr fun y hy => ?_]
  have : y ≠ x := fun e => h (e ▸ hy)
  exact decide_eq_decide.2 (by omega)
theorem upTo_end {R : List Int} {x : Int} (h : ∀ y ∈ R, y < x) : upTo R x = R.length := by
  unfold upTo
  rw [List.filter_eq_self.2 fun y hy => by simpa using h y hy]
theorem upTo_zero {R : List Int} (h : ∀ y ∈ R, 0 ≤ y) : upTo R 0 = 0 := by
  unfold upTo
  rw [List.filter_eq_nil_iff.2 fun y hy => by have := h y hy; simp; omega]
  rfl
theorem offT_rises (t s : Nm) (o k : Nat) : (offT t s o k).Pairwise (· < ·) := by
  unfold offT
  rw [List.pairwise_map]
  refine List.Pairwise.imp_of_mem (fun {a b} ha hb h => ?_) (alT_rises t s _ k)
  have h1 := (alT_mem.1 ha).1
  have h2 := (alT_mem.1 hb).1
  rcases h with h | ⟨h, h3⟩ <;> omega
theorem ch_rises (L : List Nm) (s : Nm) (l : List Int) (k : Nat) : (chUp L s l k).Pairwise (· < ·) := by
  induction k with
  | zero => exact List.Pairwise.nil
  | succ k ih =>
    have e : chUp L s l (k + 1) = chUp L s l k ++ offT (tokI L (l.getD k 0)) s (textUp L l k).length (tokI L (l.getD k 0)).length := rfl
    rw [e, List.pairwise_append]
    refine ⟨ih, offT_rises _ _ _ _, fun a ha b hb => ?_⟩
    obtain ⟨i, j, h1, h2, rfl, _⟩ := ch_mem.1 ha
    obtain ⟨j2, _, rfl, _⟩ := offT_mem.1 hb
    have h3 := textUp_mono L l (show i + 1 ≤ k by omega)
    simp only [textUp, List.length_append] at h3
    omega
theorem text_split (L : List Nm) (l : List Int) {i : Nat} : ∀ {k : Nat}, i < k → ∃ r, textUp L l k = textUp L l i ++ (tokI L (l.getD i 0) ++ r)
  | 0, h => by omega
  | k + 1, h => by
    rcases Nat.lt_or_ge i k with h1 | h1
    · obtain ⟨r, hr⟩ := text_split L l h1
      exact ⟨r ++ tokI L (l.getD k 0), by rw [textUp, hr]; simp [List.append_assoc]⟩
    · obtain rfl : i = k := by omega
      exact ⟨[], by rw [textUp]; simp⟩
theorem text_at (L : List Nm) (l : List Int) {x : Nat} : ∀ {k : Nat}, x < (textUp L l k).length → ∃ i j, i < k ∧ j < (tokI L (l.getD i 0)).length ∧ x = (textUp L l i).length + j
  | 0, h => by simp [textUp] at h
  | k + 1, h => by
    rcases Nat.lt_or_ge x (textUp L l k).length with h1 | h1
    · obtain ⟨i, j, h2, h3⟩ := text_at L l h1
      exact ⟨i, j, by omega, h3⟩
    · simp only [textUp, List.length_append] at h
      exact ⟨k, x - (textUp L l k).length, by omega, by omega, by omega⟩
theorem miss_hit {L : List Nm} {s : Nm} {l : List Int} {k x : Nat} (h0 : 0 < s.length) (h1 : x + s.length ≤ (textUp L l k).length) (he : ((textUp L l k).take (x + s.length)).drop x = s) : (x : Int) ∈ chUp L s l k := by
  obtain ⟨i, j, h2, h3, rfl⟩ := text_at L l (show x < (textUp L l k).length by omega)
  refine ch_mem.2 ⟨i, j, h2, h3, rfl, (may_iff _ _ _).2 ⟨h3, h0, ?_⟩⟩
  obtain ⟨r, hr⟩ := text_split L l h2
  rw [drop_take', hr, List.drop_append, List.drop_of_length_le (by omega), List.nil_append, show (textUp L l i).length + j - (textUp L l i).length = j by omega, List.drop_append_of_le_length (by omega)] at he
  obtain ⟨q, hq⟩ : ∃ q, q = min ((tokI L (l.getD i 0)).length - j) s.length := ⟨_, rfl⟩
  rw [← hq]
  have h5 := congrArg (List.take q) he
  rw [List.take_take, show min q s.length = q by omega, List.take_append_of_le_length (by rw [List.length_drop]; omega)] at h5
  exact h5
theorem hit_head {L : List Nm} {s : Nm} {l : List Int} {k x : Nat} (h : (x : Int) ∈ chUp L s l k) : x < (textUp L l k).length ∧ (textUp L l k)[x]? = s[0]? := by
  obtain ⟨i, j, h1, h2, h3, h4⟩ := ch_mem.1 h
  obtain rfl : x = (textUp L l i).length + j := by omega
  obtain ⟨r, hr⟩ := text_split L l h1
  obtain ⟨h5, h6, h7⟩ := (may_iff _ _ _).1 h4
  have h8 := congrArg (fun z : Nm => z[0]?) h7
  simp only [List.getElem?_take, if_pos (show 0 < min ((tokI L (l.getD i 0)).length - j) s.length by omega), List.getElem?_drop, Nat.add_zero] at h8
  rw [hr]
  refine ⟨by simp only [List.length_append]; omega, ?_⟩
  rw [List.getElem?_append_right (by omega), show (textUp L l i).length + j - (textUp L l i).length = j by omega, List.getElem?_append_left h2]
  exact h8
theorem ch_under {L : List Nm} {s : Nm} {l : List Int} {k : Nat} : ∀ y ∈ chUp L s l k, 0 ≤ y ∧ y < (((textUp L l k).length : Nat) : Int) := fun y hy => by
  obtain ⟨i, j, h1, h2, rfl, h4⟩ := ch_mem.1 hy
  have := (hit_head hy).1
  omega
end Go.Proofs.Ytjnbilcanfhkjaa
