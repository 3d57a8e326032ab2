/- The aligns in the order in which the landed cover hands them out; by tokens they are the document's. -/
import Derived.Test.YtjnbilcanfhkjaaOCov
import Derived.Test.YtjnbilcanfhkjaaTMath
namespace Go.Proofs.Ytjnbilcanfhkjaa
open Go.RowKit Go.Maps Go.WideMaps

def inUp (L : List Nm) (s : Nm) (t : Int) : Nat → List (Int × Int)
  | 0 => []
  | j + 1 => if sureB L s t (j : Int) = true then inUp L s t j ++ [(t, (j : Int))] else inUp L s t j
def outUp (L : List Nm) (s : Nm) (idx : List Int) : Nat → List (Int × Int)
  | 0 => []
  | k + 1 => outUp L s idx k ++ inUp L s (idx.getD k 0) (tokI L (idx.getD k 0)).length
/-- The tokens that end with the first n bytes. -/
def sufs (L : List Nm) (s : Nm) (n : Nat) : List Int := idxUp (fun t => atB t ((t.length : Int) - ((s.take n).length : Int)) (s.take n)) L L.length
def endOf (L : List Nm) (n : Nat) (t : Int) : Int × Int := (t, ((tokI L t).length : Int) - (n : Int))
def endUp (L : List Nm) (s : Nm) (N : Nat) : Nat → List (Int × Int)
  | 0 => []
  | i + 1 => endUp L s N i ++ (sufs L s (N - i)).map (endOf L (N - i))
def infs (L : List Nm) (s : Nm) : List Int := idxUp (fun t => infB t s) L L.length
def cutN (s : Nm) : Nat := min (s.length - 1) 16
def seqAll (L : List Nm) (s : Nm) : List (Int × Int) := outUp L s (infs L s) (infs L s).length ++ endUp L s (cutN s) (cutN s)

theorem inUp_mem {L : List Nm} {s : Nm} {t : Int} {p : Int × Int} : ∀ {k : Nat}, p ∈ inUp L s t k ↔ p.1 = t ∧ ∃ j : Nat, j < k ∧ p.2 = j ∧ sureB L s t (j : Int) = true
  | 0 => by simp [inUp]
  | k + 1 => by
    have ih := inUp_mem (L := L) (s := s) (t := t) (p := p) (k := k)
    simp only [inUp]
    split
    · rename_i h
      rw [List.mem_append, ih, List.mem_singleton]
      constructor
      · rintro (⟨h1, j, h2, h3, h4⟩ | rfl)
        · exact ⟨h1, j, by omega, h3, h4⟩
        · exact ⟨rfl, k, by omega, rfl, h⟩
      · rintro ⟨h1, j, h2, h3, h4⟩
        rcases Nat.lt_or_ge j k with h5 | h5
        · exact .inl ⟨h1, j, h5, h3, h4⟩
        · obtain rfl : j = k := by omega
          exact .inr (Prod.ext h1 h3)
    · rename_i h
      rw [ih]
      constructor
      · rintro ⟨h1, j, h2, h3, h4⟩; exact ⟨h1, j, by omega, h3, h4⟩
      · rintro ⟨h1, j, h2, h3, h4⟩
        rcases Nat.lt_or_ge j k with h5 | h5
        · exact ⟨h1, j, h5, h3, h4⟩
        · obtain rfl : j = k := by omega
          exact absurd h4 h
theorem outUp_mem {L : List Nm} {s : Nm} {idx : List Int} {p : Int × Int} : ∀ {k : Nat}, p ∈ outUp L s idx k ↔ ∃ i, i < k ∧ p ∈ inUp L s (idx.getD i 0) (tokI L (idx.getD i 0)).length
  | 0 => by simp [outUp]
  | k + 1 => by
    simp only [outUp, List.mem_append]
    rw [outUp_mem]
    constructor
    · rintro (⟨i, h1, h2⟩ | h)
      · exact ⟨i, by omega, h2⟩
      · exact ⟨k, by omega, h⟩
    · rintro ⟨i, h1, h2⟩
      rcases Nat.lt_or_ge i k with h5 | h5
      · exact .inl ⟨i, h5, h2⟩
      · obtain rfl : i = k := by omega
        exact .inr h2
theorem endUp_mem {L : List Nm} {s : Nm} {N : Nat} {p : Int × Int} : ∀ {k : Nat}, p ∈ endUp L s N k ↔ ∃ i, i < k ∧ ∃ t ∈ sufs L s (N - i), endOf L (N - i) t = p
  | 0 => by simp [endUp]
  | k + 1 => by
    simp only [endUp, List.mem_append, List.mem_map]
    rw [endUp_mem]
    constructor
    · rintro (⟨i, h1, h2⟩ | h)
      · exact ⟨i, by omega, h2⟩
      · exact ⟨k, by omega, h⟩
    · rintro ⟨i, h1, h2⟩
      rcases Nat.lt_or_ge i k with h5 | h5
      · exact .inl ⟨i, h5, h2⟩
      · obtain rfl : i = k := by omega
        exact .inr h2
theorem idx_mem_iff {P : Nm → Bool} {L : List Nm} {v : Int} : ∀ {n : Nat}, v ∈ idxUp P L n ↔ ∃ k : Nat, k < n ∧ v = k ∧ P (L.getD k []) = true
  | 0 => by simp [idxUp]
  | n + 1 => by
    have ih := idx_mem_iff (P := P) (L := L) (v := v) (n := n)
    simp only [idxUp]
    split
    · rename_i h
      rw [List.mem_append, ih, List.mem_singleton]
      constructor
      · rintro (⟨k, h1, h2⟩ | rfl)
        · exact ⟨k, by omega, h2⟩
        · exact ⟨n, by omega, rfl, h⟩
      · rintro ⟨k, h1, h2, h3⟩
        rcases Nat.lt_or_ge k n with h5 | h5
        · exact .inl ⟨k, h5, h2, h3⟩
        · obtain rfl : k = n := by omega
          exact .inr h2
    · rename_i h
      rw [ih]
      constructor
      · rintro ⟨k, h1, h2⟩; exact ⟨k, by omega, h2⟩
      · rintro ⟨k, h1, h2, h3⟩
        rcases Nat.lt_or_ge k n with h5 | h5
        · exact ⟨k, h5, h2, h3⟩
        · obtain rfl : k = n := by omega
          exact absurd h3 h
theorem idx_pair (P : Nm → Bool) (L : List Nm) : ∀ n : Nat, (idxUp P L n).Pairwise (· < ·)
  | 0 => by simp [idxUp]
  | n + 1 => by
    have ih := idx_pair P L n
    simp only [idxUp]
    split
    · refine List.pairwise_append.2 ⟨ih, List.pairwise_singleton _ _, fun x hx y hy => ?_⟩
      obtain ⟨k, h1, h2, _⟩ := idx_mem_iff.1 hx
      rw [List.mem_singleton.1 hy, h2]
      omega
    · exact ih
theorem idx_lt {P : Nm → Bool} {L : List Nm} {v : Int} {n : Nat} (h : v ∈ idxUp P L n) : ∃ k : Nat, k < n ∧ v = k := by
  obtain ⟨k, h1, h2, _⟩ := idx_mem_iff.1 h
  exact ⟨k, h1, h2⟩

/-- Of one token the shifts rise. -/
def Climb (p q : Int × Int) : Prop := p.1 = q.1 → p.2 < q.2
theorem inUp_pair (L : List Nm) (s : Nm) (t : Int) : ∀ k : Nat, (inUp L s t k).Pairwise Climb
  | 0 => by simp [inUp]
  | k + 1 => by
    have ih := inUp_pair L s t k
    simp only [inUp]
    split
    · refine List.pairwise_append.2 ⟨ih, List.pairwise_singleton _ _, fun x hx y hy _ => ?_⟩
      obtain ⟨_, j, h2, h3, _⟩ := inUp_mem.1 hx
      rw [List.mem_singleton.1 hy, h3]
      simp only
      omega
    · exact ih
theorem getD_pair {l : List Int} (h : l.Pairwise (· < ·)) {i k : Nat} (hik : i < k) (hk : k < l.length) : l.getD i 0 < l.getD k 0 := by
  have := (List.pairwise_iff_getElem.1 h) i k (by omega) hk hik
  rw [List.getD_eq_getElem?_getD, List.getD_eq_getElem?_getD, List.getElem?_eq_getElem (by omega : i < l.length), List.getElem?_eq_getElem hk]
  exact this
theorem outUp_pair (L : List Nm) (s : Nm) {idx : List Int} (h : idx.Pairwise (· < ·)) : ∀ {k : Nat}, k ≤ idx.length → (outUp L s idx k).Pairwise Climb
  | 0, _ => by simp [outUp]
  | k + 1, hk => by
    refine List.pairwise_append.2 ⟨outUp_pair L s h (by omega), inUp_pair L s _ _, fun x hx y hy e => ?_⟩
    obtain ⟨i, h1, h2⟩ := outUp_mem.1 hx
    have e1 := (inUp_mem.1 h2).1
    have e2 := (inUp_mem.1 hy).1
    have := getD_pair h h1 (by omega)
    omega
theorem endUp_pair (L : List Nm) (s : Nm) (N : Nat) : ∀ {k : Nat}, k ≤ N → (endUp L s N k).Pairwise Climb
  | 0, _ => by simp [endUp]
  | k + 1, hk => by
    refine List.pairwise_append.2 ⟨endUp_pair L s N (by omega), ?_, fun x hx y hy e => ?_⟩
    · refine List.pairwise_map.2 ((idx_pair _ L L.length).imp fun {x y} h e => ?_)
      have e' : x = y := e
      omega
    · obtain ⟨i, h1, t, _, rfl⟩ := endUp_mem.1 hx
      obtain ⟨t', _, rfl⟩ := List.mem_map.1 hy
      have e' : t = t' := e
      subst e'
      show ((tokI L t).length : Int) - ((N - i : Nat) : Int) < ((tokI L t).length : Int) - ((N - k : Nat) : Int)
      omega
theorem sure_fits {L : List Nm} {s : Nm} {t : Int} {j : Nat} (h : sureB L s t (j : Int) = true) : j + s.length ≤ (tokI L t).length ∧ mayB (tokI L t) s (j : Int) = true ∧ ((tokI L t).drop j).take s.length = s := by
  have hin := sure_in h
  have hok := h
  unfold sureB at h
  simp only [Bool.and_eq_true, decide_eq_true_eq] at h
  obtain ⟨h1, h2, h3, h4⟩ := h
  have et : tokI L t = L.getD t.toNat [] := by unfold tokI; rw [if_pos ⟨h1, h2⟩]
  obtain ⟨T, rfl⟩ : ∃ T : Nat, t = T := ⟨t.toNat, by omega⟩
  have hx : L[T]? = some (tokI L (T : Int)) := by
    rw [et, Int.toNat_natCast, List.getD_eq_getElem?_getD, List.getElem?_eq_getElem (by omega : T < L.length)]
    rfl
  rw [← et] at h3 h4
  have hs := sure_eq (s := s) hx (by have := hin.2.2; omega : j < (tokI L (T : Int)).length) hin.1
  rw [hok] at hs
  simp only [Bool.true_eq, Bool.and_eq_true, decide_eq_true_eq] at hs
  exact ⟨by omega, h3, hs.2⟩
theorem seq_pair (L : List Nm) (s : Nm) : (seqAll L s).Pairwise Climb := by
  refine List.pairwise_append.2 ⟨outUp_pair L s (idx_pair _ L L.length) (Nat.le_refl _), endUp_pair L s _ (Nat.le_refl _), fun x hx y hy e => ?_⟩
  obtain ⟨i, _, h2⟩ := outUp_mem.1 hx
  obtain ⟨e1, j, h3, h4, h5⟩ := inUp_mem.1 h2
  obtain ⟨q, h6, t, _, rfl⟩ := endUp_mem.1 hy
  rw [← e1] at h5
  have hf := (sure_fits h5).1
  have e' : x.1 = t := e
  rw [h4]
  subst e'
  show (j : Int) < ((tokI L x.1).length : Int) - ((cutN s - q : Nat) : Int)
  have hc : cutN s ≤ s.length - 1 := Nat.min_le_left _ _
  have hs := (sure_in h5).1
  omega
theorem sufs_iff {L : List Nm} {s : Nm} {n : Nat} (hn : n ≤ s.length) {t : Int} : t ∈ sufs L s n ↔ ∃ k : Nat, k < L.length ∧ t = k ∧ n ≤ (tokI L t).length ∧ (tokI L t).drop ((tokI L t).length - n) = s.take n := by
  unfold sufs
  rw [idx_mem_iff]
  have hl : (s.take n).length = n := by rw [List.length_take]; omega
  have key : ∀ x : Nm, atB x ((x.length : Int) - ((s.take n).length : Int)) (s.take n) = true ↔ n ≤ x.length ∧ x.drop (x.length - n) = s.take n := fun x => by
    rw [hl]
    by_cases h : n ≤ x.length
    · rw [show (x.length : Int) - (n : Int) = ((x.length - n : Nat) : Int) by omega, atB_nat, hl]
      have e : (x.drop (x.length - n)).take n = x.drop (x.length - n) := List.take_of_length_le (by rw [List.length_drop]; omega)
      rw [e]
      exact ⟨fun ⟨_, h2⟩ => ⟨h, h2⟩, fun ⟨_, h2⟩ => ⟨by omega, h2⟩⟩
    · refine ⟨fun h2 => ?_, fun h2 => absurd h2.1 h⟩
      unfold atB at h2
      simp only [Bool.and_eq_true, decide_eq_true_eq] at h2
      omega
  have et : ∀ k : Nat, k < L.length → tokI L (k : Int) = L.getD k [] := fun k hk => by
    unfold tokI
    rw [if_pos ⟨by omega, by omega⟩, Int.toNat_natCast]
  constructor
  · rintro ⟨k, h1, rfl, h2⟩
    rw [et k h1]
    exact ⟨k, h1, rfl, (key _).1 h2⟩
  · rintro ⟨k, h1, rfl, h2⟩
    rw [et k h1] at h2
    exact ⟨k, h1, rfl, (key _).2 h2⟩
theorem tok_nil {L : List Nm} {t : Int} {j : Nat} (h : j < (tokI L t).length) : ∃ T : Nat, t = T ∧ T < L.length ∧ tokI L t = L.getD T [] := by
  unfold tokI at h ⊢
  split at h
  · rename_i h1
    exact ⟨t.toNat, by omega, by omega, by rw [if_pos h1]⟩
  · simp at h
theorem seq_mem {L : List Nm} (hr : rightB L = true) {s : Nm} {p : Int × Int} : p ∈ seqAll L s ↔ ∃ j : Nat, p.2 = j ∧ j < (tokI L p.1).length ∧ mayB (tokI L p.1) s (j : Int) = true := by
  unfold seqAll
  rw [List.mem_append, outUp_mem, endUp_mem]
  constructor
  · rintro (⟨i, _, h2⟩ | ⟨q, h6, t, h7, rfl⟩)
    · obtain ⟨e1, j, h3, h4, h5⟩ := inUp_mem.1 h2
      rw [← e1] at h3 h5
      exact ⟨j, h4, h3, (sure_fits h5).2.1⟩
    · have hc : cutN s ≤ s.length - 1 := Nat.min_le_left _ _
      obtain ⟨n, hn⟩ : ∃ n, n = cutN s - q := ⟨_, rfl⟩
      rw [← hn] at h7 ⊢
      obtain ⟨k, h8, h9, h10, h11⟩ := (sufs_iff (by omega)).1 h7
      refine ⟨(tokI L t).length - n, ?_, ?_, ?_⟩
      · show ((tokI L t).length : Int) - (n : Int) = _
        omega
      · show _ < (tokI L t).length
        omega
      · show mayB (tokI L t) s _ = true
        unfold mayB
        simp only [Bool.and_eq_true, decide_eq_true_eq, beq_iff_eq, Int.toNat_natCast]
        refine ⟨by omega, by omega, by omega, ?_⟩
        rw [h11, show min ((tokI L t).length - ((tokI L t).length - n)) s.length = n by omega]
        rw [List.take_take]
        congr 1
        omega
  · rintro ⟨j, h1, h2, h3⟩
    obtain ⟨T, e1, e2, e3⟩ := tok_nil h2
    have h16 := right_tok hr p.1
    have hmay := h3
    unfold mayB at h3
    simp only [Bool.and_eq_true, decide_eq_true_eq, beq_iff_eq, Int.toNat_natCast] at h3
    obtain ⟨_, _, h4, h5⟩ := h3
    by_cases hle : s.length ≤ (tokI L p.1).length - j
    · rw [show min ((tokI L p.1).length - j) s.length = s.length by omega, List.take_length] at h5
      have hsure : sureB L s p.1 (j : Int) = true := by
        unfold sureB
        simp only [Bool.and_eq_true, decide_eq_true_eq]
        rw [e1] at hmay hle ⊢
        rw [e1] at e3 h2
        rw [e3] at hmay hle h2
        rw [Int.toNat_natCast]
        exact ⟨by omega, by omega, hmay, by omega⟩
      have hinf : p.1 ∈ infs L s := by
        unfold infs
        rw [idx_mem_iff]
        refine ⟨T, e2, e1, ?_⟩
        rw [← e3]
        unfold infB anyUp
        rw [List.any_eq_true]
        exact ⟨j, List.mem_range.2 (by omega), (atB_nat _ _ _).2 ⟨by omega, h5⟩⟩
      obtain ⟨i, hi⟩ := List.mem_iff_getElem?.1 hinf
      have hi2 := (List.getElem?_eq_some_iff.1 hi).1
      have hg : (infs L s).getD i 0 = p.1 := by rw [List.getD_eq_getElem?_getD, hi]; rfl
      exact .inl ⟨i, hi2, by rw [hg]; exact inUp_mem.2 ⟨rfl, j, h2, h1, hsure⟩⟩
    · obtain ⟨n, hn⟩ : ∃ n, n = (tokI L p.1).length - j := ⟨_, rfl⟩
      rw [show min ((tokI L p.1).length - j) s.length = n by omega] at h5
      have hc : n ≤ cutN s := by unfold cutN; omega
      have hcl : cutN s ≤ s.length - 1 := Nat.min_le_left _ _
      refine .inr ⟨cutN s - n, by omega, p.1, ?_, ?_⟩
      · rw [show cutN s - (cutN s - n) = n by omega]
        refine (sufs_iff (by omega)).2 ⟨T, e2, e1, by omega, ?_⟩
        rw [show (tokI L p.1).length - n = j by omega, ← h5]
        exact (List.take_of_length_le (by rw [List.length_drop]; omega)).symm
      · rw [show cutN s - (cutN s - n) = n by omega]
        refine Prod.ext rfl ?_
        show ((tokI L p.1).length : Int) - (n : Int) = p.2
        omega

/-- The shifts that go with one token. -/
def sel (ps : List (Int × Int)) (t : Int) : List Int := (ps.filter fun p => p.1 == t).map (·.2)
theorem sel_append (a b : List (Int × Int)) (t : Int) : sel (a ++ b) t = sel a t ++ sel b t := by unfold sel; rw [List.filter_append, List.map_append]
theorem sel_mem {ps : List (Int × Int)} {t j : Int} : j ∈ sel ps t ↔ (t, j) ∈ ps := by
  unfold sel
  rw [List.mem_map]
  constructor
  · rintro ⟨p, hp, rfl⟩
    obtain ⟨h1, h2⟩ := List.mem_filter.1 hp
    have : p.1 = t := by simpa using h2
    rw [← this]
    exact h1
  · intro h
    exact ⟨(t, j), List.mem_filter.2 ⟨h, by simp⟩, rfl⟩
theorem sel_pair {ps : List (Int × Int)} (h : ps.Pairwise Climb) (t : Int) : (sel ps t).Pairwise (· < ·) := by
  unfold sel
  rw [List.pairwise_map, List.pairwise_filter]
  exact h.imp fun {p q} hpq h1 h2 => by
    have e1 : p.1 = t := by simpa using h1
    have e2 : q.1 = t := by simpa using h2
    exact hpq (e1.trans e2.symm)
theorem sorted_eq : ∀ {a b : List Int}, a.Pairwise (· < ·) → b.Pairwise (· < ·) → (∀ x, x ∈ a ↔ x ∈ b) → a = b
  | [], [], _, _, _ => rfl
  | [], y :: b, _, _, h => absurd ((h y).2 (List.mem_cons_self)) (by simp)
  | x :: a, [], _, _, h => absurd ((h x).1 (List.mem_cons_self)) (by simp)
  | x :: a, y :: b, ha, hb, h => by
    obtain ⟨ha1, ha2⟩ := List.pairwise_cons.1 ha
    obtain ⟨hb1, hb2⟩ := List.pairwise_cons.1 hb
    have hxy : x = y := by
      rcases List.mem_cons.1 ((h x).1 List.mem_cons_self) with e | e
      · exact e
      · rcases List.mem_cons.1 ((h y).2 List.mem_cons_self) with e2 | e2
        · exact e2.symm
        · have := hb1 x e
          have := ha1 y e2
          omega
    subst hxy
    rw [sorted_eq ha2 hb2 fun z => ?_]
    constructor
    · intro hz
      rcases List.mem_cons.1 ((h z).1 (List.mem_cons_of_mem _ hz)) with e | e
      · subst e
        have := ha1 z hz
        omega
      · exact e
    · intro hz
      rcases List.mem_cons.1 ((h z).2 (List.mem_cons_of_mem _ hz)) with e | e
      · subst e
        have := hb1 z hz
        omega
      · exact e
/-- The shifts of a token at which a text may begin. -/
def shOf (x s : Nm) : List Int := (alT x s 0 x.length).map (·.2)
theorem alT_map (x s : Nm) (i : Int) : ∀ k : Nat, alT x s i k = ((alT x s 0 k).map (·.2)).map fun j => (i, j)
  | 0 => rfl
  | k + 1 => by
    have ih := alT_map x s i k
    simp only [alT]
    split
    · rw [ih]; simp
    · rw [ih]
theorem alT_pair (x s : Nm) (i : Int) : ∀ k : Nat, ((alT x s i k).map (·.2)).Pairwise (· < ·)
  | 0 => by simp [alT]
  | k + 1 => by
    have ih := alT_pair x s i k
    simp only [alT]
    split
    · rw [List.map_append]
      refine List.pairwise_append.2 ⟨ih, List.pairwise_singleton _ _, fun a ha b hb => ?_⟩
      obtain ⟨p, hp, rfl⟩ := List.mem_map.1 ha
      obtain ⟨_, j, h1, h2, _⟩ := alT_mem.1 hp
      rw [List.mem_singleton.1 hb, h2]
      simp only
      omega
    · exact ih
theorem shOf_mem {x s : Nm} {y : Int} : y ∈ shOf x s ↔ ∃ j : Nat, y = j ∧ j < x.length ∧ mayB x s (j : Int) = true := by
  unfold shOf
  rw [List.mem_map]
  constructor
  · rintro ⟨p, hp, rfl⟩
    obtain ⟨_, j, h1, h2, h3⟩ := alT_mem.1 hp
    exact ⟨j, h2, h1, h3⟩
  · rintro ⟨j, rfl, h1, h2⟩
    exact ⟨(0, (j : Int)), alT_mem.2 ⟨rfl, j, h1, rfl, h2⟩, rfl⟩
theorem seq_sel {L : List Nm} (hr : rightB L = true) (s : Nm) (t : Int) : sel (seqAll L s) t = shOf (tokI L t) s :=
  sorted_eq (sel_pair (seq_pair L s) t) (alT_pair _ s 0 _) fun y => by
    rw [sel_mem, seq_mem hr, shOf_mem]

theorem inUp_len (L : List Nm) (s : Nm) (t : Int) : ∀ k : Nat, (inUp L s t k).length ≤ k
  | 0 => by simp [inUp]
  | k + 1 => by
    have ih := inUp_len L s t k
    simp only [inUp]
    split
    · simp; omega
    · omega
theorem outUp_len {L : List Nm} (hr : rightB L = true) (s : Nm) (idx : List Int) : ∀ k : Nat, (outUp L s idx k).length ≤ 16 * k
  | 0 => by simp [outUp]
  | k + 1 => by
    have ih := outUp_len hr s idx k
    have h1 := inUp_len L s (idx.getD k 0) (tokI L (idx.getD k 0)).length
    have h2 := right_tok hr (idx.getD k 0)
    simp only [outUp, List.length_append]
    omega
theorem endUp_len {L : List Nm} (hr : rightB L = true) (s : Nm) (N : Nat) : ∀ k : Nat, (endUp L s N k).length ≤ 512 * k
  | 0 => by simp [endUp]
  | k + 1 => by
    have ih := endUp_len hr s N k
    have h1 : (sufs L s (N - k)).length ≤ 512 := Nat.le_trans (idxUp_len _ L L.length) (right_len hr)
    simp only [endUp, List.length_append, List.length_map]
    omega
theorem seq_len {L : List Nm} (hr : rightB L = true) (s : Nm) : (seqAll L s).length ≤ 20000 := by
  have h1 := outUp_len hr s (infs L s) (infs L s).length
  have h2 := endUp_len hr s (cutN s) (cutN s)
  have h3 : (infs L s).length ≤ 512 := Nat.le_trans (idxUp_len _ L L.length) (right_len hr)
  have h4 : cutN s ≤ 16 := Nat.min_le_right _ _
  unfold seqAll
  rw [List.length_append]
  omega
theorem seq_fits {L : List Nm} (hr : rightB L = true) {s : Nm} {p : Int × Int} (h : p ∈ seqAll L s) : 0 ≤ p.1 ∧ p.1 < 512 ∧ 0 ≤ p.2 ∧ p.2 < 16 := by
  obtain ⟨j, h1, h2, _⟩ := (seq_mem hr).1 h
  obtain ⟨T, e1, e2, _⟩ := tok_nil h2
  have := right_tok hr p.1
  have := right_len hr
  exact ⟨by omega, by omega, by omega, by omega⟩

/-- What stands ahead. -/
theorem inUp_ahead (L : List Nm) (s : Nm) (t : Int) {j k : Nat} (h : j ≤ k) : inUp L s t j <+: inUp L s t k := by
  induction k with
  | zero => obtain rfl : j = 0 := by omega
            exact List.prefix_refl _
  | succ k ih =>
    rcases Nat.lt_or_ge j (k + 1) with h1 | h1
    · refine (ih (by omega)).trans ?_
      simp only [inUp]
      split
      · exact List.prefix_append _ _
      · exact List.prefix_refl _
    · obtain rfl : j = k + 1 := by omega
      exact List.prefix_refl _
theorem outUp_ahead (L : List Nm) (s : Nm) (idx : List Int) {j k : Nat} (h : j ≤ k) : outUp L s idx j <+: outUp L s idx k := by
  induction k with
  | zero => obtain rfl : j = 0 := by omega
            exact List.prefix_refl _
  | succ k ih =>
    rcases Nat.lt_or_ge j (k + 1) with h1 | h1
    · exact (ih (by omega)).trans (List.prefix_append _ _)
    · obtain rfl : j = k + 1 := by omega
      exact List.prefix_refl _
theorem endUp_ahead (L : List Nm) (s : Nm) (N : Nat) {j k : Nat} (h : j ≤ k) : endUp L s N j <+: endUp L s N k := by
  induction k with
  | zero => obtain rfl : j = 0 := by omega
            exact List.prefix_refl _
  | succ k ih =>
    rcases Nat.lt_or_ge j (k + 1) with h1 | h1
    · exact (ih (by omega)).trans (List.prefix_append _ _)
    · obtain rfl : j = k + 1 := by omega
      exact List.prefix_refl _
theorem ahead_at {α : Type} {a l : List α} {p : α} (h : a ++ [p] <+: l) : a.length < l.length ∧ l[a.length]? = some p := by
  obtain ⟨r, rfl⟩ := h
  refine ⟨by simp, ?_⟩
  rw [List.append_assoc, List.getElem?_append_right (Nat.le_refl _), Nat.sub_self]
  rfl
/-- An align of the first kind is handed out. -/
theorem seq_in {L : List Nm} {s : Nm} {k j : Nat} (hk : k < (infs L s).length) (hj : j < (tokI L ((infs L s).getD k 0)).length) (hs : sureB L s ((infs L s).getD k 0) (j : Int) = true) :
    (outUp L s (infs L s) k ++ inUp L s ((infs L s).getD k 0) j) ++ [((infs L s).getD k 0, (j : Int))] <+: seqAll L s := by
  have h1 : outUp L s (infs L s) (k + 1) <+: seqAll L s := (outUp_ahead L s (infs L s) (by omega : k + 1 ≤ (infs L s).length)).trans (List.prefix_append _ _)
  refine List.IsPrefix.trans ?_ h1
  have h2 := inUp_ahead L s ((infs L s).getD k 0) (by omega : j + 1 ≤ (tokI L ((infs L s).getD k 0)).length)
  have e : inUp L s ((infs L s).getD k 0) (j + 1) = inUp L s ((infs L s).getD k 0) j ++ [((infs L s).getD k 0, (j : Int))] := by simp only [inUp]; rw [if_pos hs]
  rw [e] at h2
  show _ <+: outUp L s (infs L s) k ++ inUp L s ((infs L s).getD k 0) (tokI L ((infs L s).getD k 0)).length
  rw [List.append_assoc]
  exact List.prefix_append_right_inj _ |>.2 h2
/-- An align of the second kind is handed out. -/
theorem seq_end {L : List Nm} {s : Nm} {i k : Nat} (hi : i < cutN s) (hk : k < (sufs L s (cutN s - i)).length) :
    (outUp L s (infs L s) (infs L s).length ++ (endUp L s (cutN s) i ++ ((sufs L s (cutN s - i)).take k).map (endOf L (cutN s - i)))) ++ [endOf L (cutN s - i) ((sufs L s (cutN s - i)).getD k 0)] <+: seqAll L s := by
  unfold seqAll
  rw [List.append_assoc, List.append_assoc]
  refine List.prefix_append_right_inj _ |>.2 (List.IsPrefix.trans ?_ (endUp_ahead L s (cutN s) (by omega : i + 1 ≤ cutN s)))
  show _ <+: endUp L s (cutN s) i ++ (sufs L s (cutN s - i)).map (endOf L (cutN s - i))
  refine List.prefix_append_right_inj _ |>.2 ?_
  have e : ((sufs L s (cutN s - i)).take k).map (endOf L (cutN s - i)) ++ [endOf L (cutN s - i) ((sufs L s (cutN s - i)).getD k 0)] = ((sufs L s (cutN s - i)).take (k + 1)).map (endOf L (cutN s - i)) := by
    rw [List.take_add_one, List.map_append, List.getD_eq_getElem?_getD, List.getElem?_eq_getElem hk]
    rfl
  rw [e]
  exact (List.take_prefix _ _).map _
end Go.Proofs.Ytjnbilcanfhkjaa
