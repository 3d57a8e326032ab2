/- What the laws of mem share: documents added one behind the other. -/
import Derived.Test.YtmnofmcfkchebaaMmHead
namespace Go.Proofs.Ytmnofmcfkchebaa
open Go.RowKit Go.Maps Go.WideMaps
set_option linter.unusedSimpArgs false

theorem ones_fit {w : World} {A : Option Addr} {n : Nat} {X : List MDoc} (h : OnesSee w A n X) : ∀ x ∈ X, fits64 x.doc ∧ (∀ y ∈ x.T, -9223372036854775808 ≤ y ∧ y ≤ 9223372036854775807) ∧ ∀ y ∈ x.S, -9223372036854775808 ≤ y ∧ y ≤ 9223372036854775807 := fun x hx => by
  obtain ⟨i, hi, rfl⟩ := List.getElem_of_mem hx
  obtain ⟨_, x, _, _, _, _, -, h1, h2, -, -, -, -, h3, -, h4⟩ := h.at i (by have := h.len; omega)
  rw [List.getElem?_eq_getElem hi] at h1
  obtain rfl := Option.some.inj h1
  exact ⟨h2, h3.2.2.1, h4.2.2.1⟩
theorem big_mono (X : List MDoc) : ∀ {i n : Nat}, i ≤ n → bigUp X i ≤ bigUp X n
  | i, n, h => by
    induction n with
    | zero => rw [Nat.le_zero.1 h]; exact Nat.le_refl _
    | succ n ih =>
      rcases Nat.lt_or_ge i (n + 1) with h1 | h1
      · have := ih (by omega)
        rw [bigUp]
        omega
      · rw [show i = n + 1 by omega]; exact Nat.le_refl _
theorem adds_ok {w : World} {A : Option Addr} {n : Nat} {X : List MDoc} (h : OnesSee w A n X) (hb : n + bigUp X n < 9000) (i : Nat) (hi : i ≤ n) : MWF (addUp X i) ∧ totT (addUp X i) ≤ 20000 := by
  refine ⟨addUp_wf (fun x hx => ?_) i (by rw [h.len]; exact hi), ?_⟩
  · have := ones_fit h x hx
    exact ⟨fun y hy => (this.2.1 y hy).2, fun y hy => (this.2.2 y hy).2⟩
  · have h1 := big_tot (X := X) i
    have h2 := big_mono X hi
    omega
/-- One Add of a law. -/
theorem law_add {M : World → (Nat → Prop) → Nat → List MDoc → Prop} (hK : MemOk M) {W wr : World} {A : Option Addr} {n b i : Nat} {X : List MDoc} {F : Nat → Prop} (h : OnesSee W A n X) (hbig : n + bigUp X n < 9000) (hM : M wr F b (addUp X i)) (hF : MNew W F) (hB : Below W.heap.size W wr) (hi : i < n) :
    ∃ pa x B cB C cC, A = some pa ∧ X[i]? = some x ∧ mD X i = x ∧ fits64 x.doc ∧ (∀ u, Below W.heap.size W u → u.cell? (pa.add (i * 3)) = some (.int .i64 x.doc) ∧ u.cell? ⟨(pa.add (i * 3)).block, (pa.add (i * 3)).off + 1, none⟩ = some (.slice B x.T.length cB) ∧ u.cell? ⟨(pa.add (i * 3)).block, (pa.add (i * 3)).off + 2, none⟩ = some (.slice C x.S.length cC) ∧ IntsIn u B x.T.length x.T ∧ IntsIn u C x.S.length x.S) ∧
      ∀ u, Below wr.heap.size wr u → Calls Try.prog 10 #[.pointer (some ⟨b, 0, none⟩), .int .i64 x.doc, .slice B x.T.length cB, .slice C x.S.length cC] u fun e w' => e = .returned (.int .i64 (mErr (addUp X i) x)) ∧ ∃ F', M w' F' b (addUp X (i + 1)) ∧ MNew W F' ∧ Below W.heap.size W w' ∧ Kept F u w' ∧ ∀ j, F' j → F j ∨ u.heap.size ≤ j := by
  obtain ⟨pa, x, B, cB, C, cC, rfl, hx, hfx, a0, a1, a2, hcB, hIB, hcC, hIC⟩ := h.at i hi
  obtain ⟨hw, ht⟩ := adds_ok h hbig i (by omega)
  have hcells : ∀ u, Below W.heap.size W u → u.cell? (pa.add (i * 3)) = some (.int .i64 x.doc) ∧ u.cell? ⟨(pa.add (i * 3)).block, (pa.add (i * 3)).off + 1, none⟩ = some (.slice B x.T.length cB) ∧ u.cell? ⟨(pa.add (i * 3)).block, (pa.add (i * 3)).off + 2, none⟩ = some (.slice C x.S.length cC) ∧ IntsIn u B x.T.length x.T ∧ IntsIn u C x.S.length x.S :=
    fun u hu => ⟨below_cells hu a0, below_cells hu a1, below_cells hu a2, hIB.below hu, hIC.below hu⟩
  refine ⟨pa, x, B, cB, C, cC, rfl, hx, mD_at hx, hfx, hcells, fun u hu => ?_⟩
  have hBu := below_then hB hu hB.size
  obtain ⟨-, -, -, j1, j2⟩ := hcells u hBu
  refine (hK.add (hK.below hM hu) hw ht x B C _ _ cB cC j1 j2 hcB hcC (fun ad e h0 hf => ?_) (fun ad e h0 hf => ?_) hfx).mono ?_
  · have h1 := hIB.2.2.2 ad e h0
    have h2 := hF _ hf
    omega
  · have h1 := hIC.2.2.2 ad e h0
    have h2 := hF _ hf
    omega
  · rintro e w' ⟨rfl, F', h1, h2, h3⟩
    refine ⟨rfl, F', by rw [addUp, mD_at hx]; exact h1, hF.more h3 hBu.size, below_mine hBu h2 hF, h2, h3⟩
/-- Is t among the first k? -/
def hasUp (T : List Int) (t : Int) : Nat → Bool
  | 0 => false
  | k + 1 => hasUp T t k || T.getD k 0 == t
theorem hasUp_iff {T : List Int} {t : Int} : ∀ {k : Nat}, k ≤ T.length → (hasUp T t k = true ↔ t ∈ T.take k)
  | 0, _ => by simp [hasUp]
  | k + 1, h => by
    have h1 : T[k]? = some (T.getD k 0) := by rw [List.getD_eq_getElem?_getD, List.getElem?_eq_getElem (by omega)]; rfl
    rw [hasUp, Bool.or_eq_true, hasUp_iff (by omega), List.take_add_one, h1, List.mem_append, beq_iff_eq]
    simp [eq_comm]
theorem hasUp_all (T : List Int) (t : Int) : hasUp T t T.length = decide (t ∈ T) := by
  rw [Bool.eq_iff_iff, hasUp_iff (Nat.le_refl _), List.take_length]
  simp
/-- Has a document that was added the token t? -/
def isUp (X : List MDoc) (t : Int) : Nat → Bool
  | 0 => false
  | i + 1 => isUp X t i || (decide (mErr (addUp X i) (mD X i) = 0) && hasUp (mD X i).T t (mD X i).T.length)
theorem isUp_is (X : List MDoc) (t : Int) : ∀ i, isUp X t i = decide (t ∈ mTerms (addUp X i))
  | 0 => by simp [isUp, addUp, mTerms]
  | i + 1 => by
    rw [isUp, isUp_is X t i, hasUp_all, addUp, Bool.eq_iff_iff]
    unfold mAdd
    by_cases h : mErr (addUp X i) (mD X i) = 0
    · rw [if_pos h, terms_append]
      simp [h, termOne_mem]
    · rw [if_neg h]
      simp [h]
theorem mD_get {L : List MDoc} {i : Nat} (h : i < L.length) : L[i]? = some (mD L i) := by
  unfold mD
  rw [List.getD_eq_getElem?_getD, List.getElem?_eq_getElem h]
  rfl
theorem spots_none {x : MDoc} {t : Int} (h : (mSpots x t).length = 0) : t ∉ x.T := fun hm => by
  obtain ⟨k, hk, rfl⟩ := List.getElem_of_mem hm
  have h1 : ((k : Int), x.S.getD k 0) ∈ mSpots x x.T[k] := spotUp_mem.2 ⟨k, hk, by rw [List.getD_eq_getElem?_getD, List.getElem?_eq_getElem hk]; rfl, rfl⟩
  have := List.length_pos_of_mem h1
  omega
theorem spots_some {x : MDoc} {t : Int} (h : 0 < (mSpots x t).length) : t ∈ x.T := by
  obtain ⟨s, hs⟩ := List.exists_mem_of_length_pos h
  obtain ⟨k, hk, h1, -⟩ := spotUp_mem.1 hs
  rw [← h1, List.getD_eq_getElem?_getD, List.getElem?_eq_getElem hk]
  exact List.getElem_mem hk
theorem postUp_pos {L : List MDoc} {t : Int} : ∀ {i : Nat}, i ≤ L.length → (0 < (postUp L t i).length ↔ ∃ y ∈ L.take i, t ∈ y.T)
  | 0, _ => by simp [postUp]
  | i + 1, h => by
    rw [postUp, List.length_append, List.take_add_one, mD_get (by omega)]
    have ih := postUp_pos (L := L) (t := t) (i := i) (by omega)
    unfold postOne
    by_cases h0 : 0 < (mSpots (mD L i) t).length
    · rw [if_pos h0]
      refine ⟨fun _ => ⟨mD L i, by simp, spots_some h0⟩, fun _ => by simp⟩
    · rw [if_neg h0]
      rw [List.length_nil, Nat.add_zero, ih]
      refine ⟨fun ⟨y, h1, h2⟩ => ⟨y, by simp [h1], h2⟩, fun ⟨y, h1, h2⟩ => ?_⟩
      rcases List.mem_append.1 h1 with h3 | h3
      · exact ⟨y, h3, h2⟩
      · simp at h3
        subst h3
        exact absurd h2 (spots_none (by omega))
theorem posts_pos (L : List MDoc) (t : Int) : decide (0 < (mPosts L t).length) = decide (t ∈ mTerms L) := by
  rw [Bool.eq_iff_iff, decide_eq_true_iff, decide_eq_true_iff, terms_mem]
  unfold mPosts
  rw [postUp_pos (Nat.le_refl _), List.take_length]
/-- Was it there, or is it now among the first k? -/
def addHas (s d : Bool) (T : List Int) (t : Int) (k : Nat) : Bool := s || (d && hasUp T t k)
theorem addHas_zero (s d : Bool) (T : List Int) (t : Int) : s = addHas s d T t 0 := by simp [addHas, hasUp]
theorem addHas_step {s d z : Bool} {T : List Int} {t : Int} {k : Nat} (hz : z = addHas s d T t k) : (z || (d && (T.getD k 0 == t))) = addHas s d T t (k + 1) := by
  subst hz
  unfold addHas
  rw [hasUp]
  cases s <;> cases d <;> cases hasUp T t k <;> cases (T.getD k 0 == t) <;> rfl
theorem addHas_not {s d : Bool} (h : d = false) (T : List Int) (t : Int) (k : Nat) : addHas s d T t k = s := by subst h; simp [addHas]
end Go.Proofs.Ytmnofmcfkchebaa
