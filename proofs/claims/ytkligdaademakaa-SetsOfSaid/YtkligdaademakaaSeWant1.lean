/- Rows of lists of numbers of the call's own; how long the lists of a script get. -/
import Derived.Test.YtkligdaademakaaSeMade
namespace Go.Proofs.Ytkligdaademakaa
open Go.RowKit Go.Maps Go.WideMaps
set_option linter.unusedSimpArgs false

def totL (st : List (List Int)) : Nat := (st.map List.length).sum
theorem totL_append (a b : List (List Int)) : totL (a ++ b) = totL a + totL b := by simp [totL]
theorem totL_one (a : List Int) : totL [a] = a.length := by simp [totL]
theorem totL_cut (st : List (List Int)) (k : Nat) : totL (st.take k) + totL (st.drop k) = totL st := by
  rw [← totL_append, List.take_append_drop]
theorem totL_mem {st : List (List Int)} {i : Nat} {x : List Int} (h : st[i]? = some x) : x.length ≤ totL st := by
  have h1 := totL_cut st i
  have h2 := (List.getElem?_eq_some_iff.1 h).1
  have h3 : totL (st.drop i) = x.length + totL (st.drop (i + 1)) := by
    rw [List.drop_eq_getElem_cons h2, (List.getElem?_eq_some_iff.1 h).2]
    simp [totL]
  omega
theorem andI_len (a b : List Int) : (andI a b).length ≤ a.length := List.length_filter_le _ _
theorem lessI_len (a b : List Int) : (lessI a b).length ≤ a.length := List.length_filter_le _ _
theorem listI_len (l : List Int) : (listI l).length ≤ l.length := listUp_len l _
theorem foldAnd_len (r : List (List Int)) : ∀ a : List Int, (r.foldl andI a).length ≤ a.length := by
  induction r with
  | nil => intro a; exact Nat.le_refl _
  | cons x r ih => intro a; exact Nat.le_trans (ih _) (andI_len a x)
theorem foldOr_len (r : List (List Int)) : ∀ a : List Int, (r.foldl orI a).length ≤ a.length + totL r := by
  induction r with
  | nil => intro a; simp [totL]
  | cons x r ih =>
    intro a
    have h1 := ih (orI a x)
    have h2 := orI_len a x
    have h3 : totL (x :: r) = x.length + totL r := by simp [totL]
    simp only [List.foldl_cons]
    omega
theorem andL_tot (st : List (List Int)) : (andL st).length ≤ totL st := by
  cases st with
  | nil => simp [andL]
  | cons a r =>
    have h1 := foldAnd_len r a
    have h3 : totL (a :: r) = a.length + totL r := by simp [totL]
    simp only [andL]
    omega
theorem orL_tot (st : List (List Int)) : (orL st).length ≤ totL st := by
  have := foldOr_len st []
  simpa [orL] using this
theorem two_tot {st : List (List Int)} (h : ¬ st.length < 2) : totL (st.take (st.length - 2)) + (st.getD (st.length - 2) []).length + (st.getD (st.length - 1) []).length = totL st := by
  obtain ⟨a, b, h1, h2, h3⟩ := last_two (rfl : st.length = st.length) (m := st.length - 2) (by omega)
  have h4 := totL_cut st (st.length - 2)
  rw [h1] at h4
  rw [List.getD_eq_getElem?_getD, List.getD_eq_getElem?_getD, h2, show st.length - 1 = st.length - 2 + 1 by omega, h3]
  have h5 : totL [a, b] = a.length + b.length := by simp [totL]
  simp only [Option.getD_some]
  omega
theorem stepO_tot (st : List (List Int)) (o : SOp) (h : o.what = 1 → o.n ≤ 60) : totL (stepO st o) ≤ totL st + o.l.length + 60 := by
  unfold stepO
  split
  · rw [totL_append, totL_one]; have := listI_len o.l; omega
  split
  · rename_i h1
    rw [totL_append, totL_one, all_len]; have := h h1; omega
  split
  · split
    · omega
    · rename_i h2
      have h3 := two_tot h2
      rw [totL_append, totL_one]
      split
      · have := andI_len (st.getD (st.length - 2) []) (st.getD (st.length - 1) []); omega
      split
      · have := orI_len (st.getD (st.length - 2) []) (st.getD (st.length - 1) []); omega
      · have := lessI_len (st.getD (st.length - 2) []) (st.getD (st.length - 1) []); omega
  split
  · rw [totL_append, totL_one]
    have h1 := totL_cut st (st.length - kOf o st.length)
    have h2 := andL_tot (st.drop (st.length - kOf o st.length))
    omega
  split
  · rw [totL_append, totL_one]
    have h1 := totL_cut st (st.length - kOf o st.length)
    have h2 := orL_tot (st.drop (st.length - kOf o st.length))
    omega
  split
  · rw [totL_append, totL_one]; simp; omega
  · omega
theorem runO_tot {T : List SOp} (h : SmallS T) : ∀ k, totL (runO T k) ≤ 660 * k
  | 0 => by simp [runO, totL]
  | k + 1 => by
    have h1 := runO_tot h k
    rcases Nat.lt_or_ge k T.length with hk | hk
    · have hm : T.getD k ⟨0, [], 0⟩ ∈ T := by
        rw [List.getD_eq_getElem?_getD, List.getElem?_eq_getElem hk]
        exact List.getElem_mem hk
      have h2 := stepO_tot (runO T k) (T.getD k ⟨0, [], 0⟩) (h.all _ hm)
      have h3 := h.len _ hm
      rw [runO]
      omega
    · have he : T.getD k ⟨0, [], 0⟩ = ⟨0, [], 0⟩ := by
        rw [List.getD_eq_getElem?_getD, List.getElem?_eq_none (by omega)]
        rfl
      have h2 := stepO_tot (runO T k) ⟨0, [], 0⟩ (fun e => by cases e)
      rw [runO, he]
      simp only [List.length_nil] at h2
      omega
theorem wantL_few {T : List SOp} (h : SmallS T) : (wantL T).length ≤ 1000000 := by
  have h1 := runO_tot h T.length
  have h2 := h.few
  unfold wantL
  rcases List.eq_nil_or_concat (runO T T.length) with h3 | ⟨r, x, h3⟩
  · rw [h3]; simp
  · have h4 : totL (runO T T.length) = totL r + x.length := by rw [h3, List.concat_eq_append, totL_append, totL_one]
    rw [h3, List.concat_eq_append, List.getLastD_concat]
    omega

/-- Numbers to read that were made since. -/
structure NumO (w : World) (base : Nat) (g : Option Nat) (u : Value) (x : List Int) : Prop where
  see : ∃ A c, u = .slice A x.length c ∧ x.length ≤ c ∧ IntsIn w A x.length x ∧ ∀ ad, A = some ad → 0 < x.length → base ≤ ad.block ∧ g ≠ some ad.block
theorem NumO.nil (w : World) (base : Nat) (g : Option Nat) : NumO w base g (.slice none 0 0) [] := ⟨none, 0, rfl, Nat.le_refl _, ⟨by unfold maxLen; simp, ⟨rfl, (fun ad e => by cases e), fun _ => rfl⟩, by simp, fun ad e => by cases e⟩, fun ad e => by cases e⟩
theorem NumO.keep {w w' : World} {base : Nat} {g g' : Option Nat} {u : Value} {x : List Int} (h : NumO w base g u x) (hk : ∀ i, base ≤ i → i < w.heap.size → g ≠ some i → w'.heap[i]? = w.heap[i]?) (hs : w.heap.size ≤ w'.heap.size) (hg : ∀ i, g' = some i → g = some i ∨ w.heap.size ≤ i) : NumO w' base g' u x := by
  obtain ⟨A, c, h1, h2, h3, h4⟩ := h.see
  refine ⟨A, c, h1, h2, ⟨h3.1, h3.2.1.keep fun ad e hn => hk _ (h4 ad e hn).1 (h3.2.2.2 ad e hn) (h4 ad e hn).2, h3.2.2.1, fun ad e hn => Nat.lt_of_lt_of_le (h3.2.2.2 ad e hn) hs⟩, fun ad e hn => ⟨(h4 ad e hn).1, fun e2 => ?_⟩⟩
  rcases hg _ e2 with h5 | h5
  · exact (h4 ad e hn).2 h5
  · have := h3.2.2.2 ad e hn; omega
theorem NumO.below {w w' : World} {base : Nat} {g : Option Nat} {u : Value} {x : List Int} (h : NumO w base g u x) (hb : Below w.heap.size w w') : NumO w' base g u x :=
  h.keep (fun i _ h1 _ => hb.block i h1) hb.size (fun _ e => .inl e)
/-- What the document has made. -/
theorem NumO.made {w w' : World} {base : Nat} {g : Option Nat} {l : List Int} {e : Ending} (h : NumsOut w l e w') (hl : ∀ x ∈ l, -9223372036854775808 ≤ x ∧ x ≤ 9223372036854775807) (h63 : l.length ≤ maxLen) (hb : base ≤ w.heap.size) (hg : ∀ i, g = some i → i < w.heap.size) : ∃ A c, e = .returned (.slice A l.length c) ∧ NumO w' base g (.slice A l.length c) l ∧ Below w.heap.size w w' := by
  obtain ⟨v, rfl, ho, hB⟩ := h
  obtain ⟨A, c, rfl, hc⟩ := own_cap ho
  have hi := IntsIn.own ho h63 hl
  refine ⟨A, c, rfl, ⟨A, c, rfl, hc, hi, fun ad e hn => ⟨?_, fun e2 => ?_⟩⟩, hB⟩
  · have := (ho.lt ad.block (by rw [e]; rfl)).1; omega
  · have h1 := (ho.lt ad.block (by rw [e]; rfl)).1
    have h2 := hg _ e2
    omega
/-- A row of lists that nobody else writes in. -/
structure RowI (w : World) (base : Nat) (v : Value) (X : List (List Int)) (U : List Value) : Prop where
  own : w.ownsRow base 26 1 v X.length U
  each : ∀ (i : Nat) (x : List Int), X[i]? = some x → ∃ u, U[i]? = some u ∧ NumO w base v.ownBlock u x
theorem RowI.nil (w : World) (base : Nat) : RowI w base (.slice none 0 0) [] [] := ⟨⟨rfl, .inl ⟨rfl, rfl⟩⟩, fun i x h => by cases h⟩
theorem RowI.len {w : World} {base : Nat} {v : Value} {X : List (List Int)} {U : List Value} (h : RowI w base v X U) : U.length = X.length := by
  have := h.own.1; simpa using this
theorem RowI.below {w w' : World} {base : Nat} {v : Value} {X : List (List Int)} {U : List Value} (h : RowI w base v X U) (hb : Below w.heap.size w w') : RowI w' base v X U :=
  ⟨ownsRow_block h.own fun g e => hb.block g (h.own.lt g e).2, fun i x hx => by
    obtain ⟨u, h1, h2⟩ := h.each i x hx
    exact ⟨u, h1, h2.below hb⟩⟩
theorem RowI.take {w : World} {base n c m : Nat} {A : Option Addr} {X : List (List Int)} {U : List Value} (h : RowI w base (.slice A n c) X U) (hn : X.length = n) (hm : m ≤ n) : RowI w base (.slice A m c) (X.take m) (U.take m) := by
  have h1 := h.own
  rw [hn] at h1
  have h2 := own_take h1 hm
  refine ⟨by rw [List.length_take, Nat.min_eq_left (by omega)]; exact h2, fun i x hx => ?_⟩
  rw [List.getElem?_take] at hx
  split at hx
  · rename_i hi
    obtain ⟨u, h3, h4⟩ := h.each i x hx
    refine ⟨u, by rw [List.getElem?_take, if_pos hi]; exact h3, ?_⟩
    have e : (Value.slice A m c).ownBlock = (Value.slice A n c).ownBlock := by cases A <;> rfl
    rw [e]
    exact h4
  · cases hx
theorem slice_one (U : List Value) (h : ∀ u ∈ U, ∃ A n c, u = .slice A n c) : ∀ u ∈ U, u.oneCell' = true := fun u hu => by
  obtain ⟨A, n, c, rfl⟩ := h u hu
  rfl
/-- One list more. -/
theorem RowI.push {w w2 : World} {base : Nat} {v v' : Value} {X : List (List Int)} {U : List Value} {o : Obj} {y : List Int} {u : Value} (h : RowI w base v X U) (hy : NumO w base v.ownBlock u y)
    (hown : w2.ownsRow base 26 1 v' (X.length + 1) (U ++ [u])) (hg : (w.alloc o).grownBy w2 v.ownBlock) (hloc : v'.ownBlock = v.ownBlock ∨ v'.ownBlock = some (w.alloc o).heap.size) :
    RowI w2 base v' (X ++ [y]) (U ++ [u]) ∧ Kept (fun b => v.ownBlock = some b) w w2 := by
  have hk : Kept (fun b => v.ownBlock = some b) w w2 := ((Kept.refl _ w).alloc o).grown hg (fun k e => .inl e)
  have hgo : ∀ i, v'.ownBlock = some i → v.ownBlock = some i ∨ w.heap.size ≤ i := fun i e => by
    rcases hloc with h1 | h1
    · rw [h1] at e; exact .inl e
    · rw [h1] at e
      have := Option.some.inj e
      subst this
      exact .inr (by simp)
  have hkk : ∀ {x u'}, NumO w base v.ownBlock u' x → NumO w2 base v'.ownBlock u' x := fun h1 => h1.keep (fun i _ h2 h3 => hk.block i h2 h3) hk.size hgo
  refine ⟨⟨by simpa using hown, fun i x hx => ?_⟩, hk⟩
  rw [List.getElem?_append] at hx
  split at hx
  · obtain ⟨u', h1, h2⟩ := h.each i x hx
    exact ⟨u', by rw [List.getElem?_append_left (by rw [h.len]; assumption)]; exact h1, hkk h2⟩
  · have hi : i - X.length = 0 := by have := (List.getElem?_eq_some_iff.1 hx).1; simpa using this
    rw [hi] at hx
    cases hx
    have hle : U.length ≤ i := by rw [h.len]; omega
    exact ⟨u, by rw [List.getElem?_append_right hle, h.len, hi]; rfl, hkk hy⟩
/-- What is wanted of a script. -/
def WantOut (w : World) (l : List Int) (e : Ending) (w' : World) : Prop := ∃ u, e = .returned u ∧ NumO w' w.heap.size none u l ∧ Below w.heap.size w w'
end Go.Proofs.Ytkligdaademakaa
