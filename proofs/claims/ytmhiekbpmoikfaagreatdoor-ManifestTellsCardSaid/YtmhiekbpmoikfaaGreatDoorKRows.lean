/- Slices of slices of bytes: of one's own, and what came in. -/
import Derived.Test.YtmhiekbpmoikfaaGreatDoorZp1
namespace Go.Proofs.YtmhiekbpmoikfaaGreatDoor
open Go.RowKit Go.Maps Go.WideMaps Go.ChangeShapes Go.WideShapes Go.ChangeAt Go.Deep

theorem rowInfo : (Tryz.prog.info? 25).map (fun i => (i.zero, i.size, i.bytes)) = some (some (.slice none 0 0), 1, 24) := by kernel_rfl
/-- A value that is a slice of just these bytes. -/
def Holds1 (w : World) (sv : Value) (x : Nm) : Prop := ∃ A c, sv = .slice A x.length c ∧ x.length ≤ c ∧ BytesIn w A x.length x
theorem Holds1.below {w w' : World} {sv : Value} {x : Nm} (h : Holds1 w sv x) (hb : Below w.heap.size w w') : Holds1 w' sv x := by
  obtain ⟨A, c, h1, h2, h3⟩ := h
  exact ⟨A, c, h1, h2, h3.below hb⟩
theorem Holds1.own {w : World} {base : Nat} {v : Value} {x : Nm} (h : w.ownsRow base 5 1 v x.length (x.map byteV)) (h63 : x.length ≤ maxLen) : Holds1 w v x := by
  obtain ⟨A, c, h1, h2⟩ := own_cap h
  subst h1
  exact ⟨A, c, rfl, h2, BytesIn.own h h63⟩
/-- What can be read: each row, in order. -/
structure RowsSee (w : World) (A : Option Addr) (n : Nat) (L : List Nm) : Prop where
  len : L.length = n
  fit : n ≤ maxLen
  at_ : ∀ (i : Nat) (x : Nm), L[i]? = some x → ∃ ad B c, A = some ad ∧ w.cell? (ad.add i) = some (.slice B x.length c) ∧ x.length ≤ c ∧ BytesIn w B x.length x
theorem RowsSee.below {w w' : World} {A : Option Addr} {n : Nat} {L : List Nm} (h : RowsSee w A n L) (hb : Below w.heap.size w w') : RowsSee w' A n L :=
  ⟨h.len, h.fit, fun i x hx => by
    obtain ⟨ad, B, c, h1, h2, h3, h4⟩ := h.at_ i x hx
    exact ⟨ad, B, c, h1, (hb.cell (World.block_lt_of_cell? w _ h2)).trans h2, h3, h4.below hb⟩⟩
theorem RowsSee.drewN {w : World} {A : Option Addr} {n : Nat} {L : List Nm} (h : RowsSee w A n L) (q : Nat) : RowsSee (w.drewN q) A n L := h.below (below_drewN (Below.refl _ _) q)
/-- A row of slices of one's own, each with its bytes. -/
def RowsAt (w : World) (base : Nat) (v : Value) (L : List Nm) : Prop :=
  ∃ svs : List Value, w.ownsRow base 25 1 v L.length svs ∧ ∀ (i : Nat) (sv : Value) (x : Nm), svs[i]? = some sv → L[i]? = some x → ∃ A c, sv = .slice A x.length c ∧ x.length ≤ c ∧ BytesIn w A x.length x ∧ ∀ ad, A = some ad → 0 < x.length → v.ownBlock ≠ some ad.block
theorem RowsAt.nil (w : World) (base : Nat) : RowsAt w base (.slice none 0 0) [] := ⟨[], ⟨rfl, .inl ⟨rfl, rfl⟩⟩, fun i sv x h _ => by simp at h⟩
theorem RowsAt.below {w w' : World} {base : Nat} {v : Value} {L : List Nm} (h : RowsAt w base v L) (hb : Below w.heap.size w w') : RowsAt w' base v L := by
  obtain ⟨svs, h1, h2⟩ := h
  refine ⟨svs, ownsRow_block h1 fun g hg => hb.block g (h1.lt g hg).2, fun i sv x e1 e2 => ?_⟩
  obtain ⟨A, c, h3, h4, h5, h6⟩ := h2 i sv x e1 e2
  exact ⟨A, c, h3, h4, h5.below hb, h6⟩
theorem RowsAt.le {w : World} {base base' : Nat} {v : Value} {L : List Nm} (h : RowsAt w base v L) (hb : base' ≤ base) : RowsAt w base' v L := by
  obtain ⟨svs, h1, h2⟩ := h
  exact ⟨svs, Go.Joins.ownsRow_le h1 hb, h2⟩
theorem RowsAt.see {w : World} {base : Nat} {A : Option Addr} {n c : Nat} {L : List Nm} (h : RowsAt w base (.slice A n c) L) (h63 : L.length ≤ maxLen) : RowsSee w A L.length L ∧ n = L.length ∧ n ≤ c := by
  obtain ⟨svs, h1, h2⟩ := h
  obtain ⟨A', c', e1, e2⟩ := own_cap h1
  injection e1 with ea en ec
  subst ea en ec
  refine ⟨⟨rfl, h63, fun i x hx => ?_⟩, rfl, e2⟩
  have hl : svs.length = L.length := by have := h1.1; simpa using this
  have hi := (List.getElem?_eq_some_iff.1 hx).1
  have hs : svs[i]? = some (svs[i]'(by omega)) := List.getElem?_eq_getElem _
  obtain ⟨B, cb, h3, h4, h5, _⟩ := h2 i _ x hs hx
  have hsrc := src_of_own h1
  cases hA : A with
  | none => have := hsrc.nil hA; omega
  | some ad =>
    refine ⟨ad, B, cb, rfl, ?_, h4, h5⟩
    have := hsrc.cells ad hA i _ hs
    rw [h3] at this
    exact this
/-- One more row, appended. -/
theorem RowsAt.push {w w' : World} {base : Nat} {v v' sv : Value} {L : List Nm} {x : Nm} {svs : List Value}
    (h2 : ∀ (i : Nat) (sv : Value) (x : Nm), svs[i]? = some sv → L[i]? = some x → ∃ A c, sv = .slice A x.length c ∧ x.length ≤ c ∧ BytesIn w A x.length x ∧ ∀ ad, A = some ad → 0 < x.length → v.ownBlock ≠ some ad.block)
    (hl : svs.length = L.length) (hs : Holds1 w sv x) (hap : ∀ A c ad, sv = .slice A x.length c → A = some ad → 0 < x.length → v.ownBlock ≠ some ad.block)
    (ho : w'.ownsRow base 25 1 v' (L.length + 1) (svs ++ [sv])) (hg : w.grownBy w' v.ownBlock) (hloc : v'.ownBlock = v.ownBlock ∨ ∃ g, v'.ownBlock = some g ∧ w.heap.size ≤ g) : RowsAt w' base v' (L ++ [x]) := by
  have keep : ∀ {A : Option Addr} {y : Nm}, BytesIn w A y.length y → (∀ ad, A = some ad → 0 < y.length → v.ownBlock ≠ some ad.block) → BytesIn w' A y.length y ∧ ∀ ad, A = some ad → 0 < y.length → v'.ownBlock ≠ some ad.block := by
    intro A y hb hn
    refine ⟨⟨hb.1, hb.2.1.keep fun ad e h0 => hg.block _ (hb.2.2 ad e h0) (fun e2 => hn ad e h0 e2.symm), fun ad e h0 => Nat.lt_of_lt_of_le (hb.2.2 ad e h0) hg.size⟩, fun ad e h0 => ?_⟩
    rcases hloc with h | ⟨g, h, hge⟩
    · rw [h]; exact hn ad e h0
    · rw [h]
      intro e2
      have h3 := hb.2.2 ad e h0
      have h4 : g = ad.block := Option.some.inj e2
      omega
  refine ⟨svs ++ [sv], by simpa using ho, fun i sv' y e1 e2 => ?_⟩
  rcases Nat.lt_or_ge i L.length with hi | hi
  · rw [List.getElem?_append_left (by omega)] at e1 e2
    obtain ⟨A, c, h3, h4, h5, h6⟩ := h2 i sv' y e1 e2
    obtain ⟨k1, k2⟩ := keep h5 h6
    exact ⟨A, c, h3, h4, k1, k2⟩
  · have hlt := (List.getElem?_eq_some_iff.1 e2).1
    simp at hlt
    obtain rfl : i = L.length := by omega
    rw [List.getElem?_append_right (by omega)] at e1 e2
    simp [hl] at e1 e2
    subst e1 e2
    obtain ⟨A, c, h3, h4, h5⟩ := hs
    obtain ⟨k1, k2⟩ := keep h5 fun ad e h0 => hap A c ad h3 e h0
    exact ⟨A, c, h3, h4, k1, k2⟩
/-- A slice in a new block, as a source. -/
theorem one_row_src (w : World) (sv : Value) (h : sv.oneCell' = true) : Src (w.alloc (.cells #[sv] 25)) (some ⟨w.heap.size, 0, none⟩) 1 [sv] := by
  have _ := h
  refine ⟨rfl, fun ad e j u hu => ?_, fun e => by cases e⟩
  cases e
  have hj : j = 0 := by
    have := (List.getElem?_eq_some_iff.1 hu).1
    simp at this
    exact this
  subst hj
  rw [show (⟨w.heap.size, 0, none⟩ : Addr).add 0 = ⟨w.heap.size, 0, none⟩ by simp [Addr.add], cell_of_row _ w.heap.size 0 _ 25 (0, 0) (heap_alloc_new w _)]
  simpa using hu

section
variable {H : Type} {enc : TypeId × Value → H} {w : World}
set_option maxRecDepth 100000 in
/-- A slice of slices of bytes that came in. -/
theorem rows_in {A : Option Addr} {n c : Nat} {x : DataW H × List MemPlace} {fuel : Nat} {base : Nat} {spare : Nat → Bool} {held : Bool} (h : DataW.trod enc Tryz.prog w base spare held fuel 98 [.slice A n c] = some x) : ∃ L, RowsSee w A n L := by
  rcases open_slice Tryz.underlying98 h with ⟨hcs, _⟩ | ⟨a, len, cap, m, f, D, Pl, hcs, _, hl, hm, hmm, hx, hi⟩
  · simp only [List.cons.injEq, Value.slice.injEq, and_true] at hcs
    obtain ⟨rfl, rfl, rfl⟩ := hcs
    exact ⟨[], rfl, by unfold maxLen; omega, by simp⟩
  · simp only [List.cons.injEq, Value.slice.injEq, and_true] at hcs
    obtain ⟨rfl, rfl, rfl⟩ := hcs
    have hlm : n ≤ m := by rw [hmm]; split <;> omega
    have cO : Tryz.prog.cellsOf 25 = 1 := by kernel_rfl
    have hex : ∀ i, i < n → ∃ (y : Nm) (B : Option Addr) (cb : Nat), w.cell? (a.add i) = some (.slice B y.length cb) ∧ y.length ≤ cb ∧ BytesIn w B y.length y := by
      intro i hlt
      obtain ⟨cs', hc, ht⟩ := hi i (by omega)
      rw [cO] at hc
      obtain ⟨hsz, _, hat⟩ := World.cells?_some hc
      obtain ⟨u, rfl⟩ : ∃ u, cs' = [u] := by
        match cs', hsz with
        | [u], _ => exact ⟨u, rfl⟩
      obtain ⟨B, bn, bc, rfl, hbc⟩ := bytes_shape ht
      obtain ⟨y, hy⟩ := bytes_in ht
      have hyl : y.length = bn := by have := hy.2.1.len; simpa using this
      subst hyl
      refine ⟨y, B, bc, ?_, hbc, hy⟩
      have := hat 0 (by simp)
      simpa [Addr.add] using this
    have hw : ∀ k, k ≤ n → ∃ L : List Nm, L.length = k ∧ ∀ (i : Nat) (y : Nm), L[i]? = some y → ∃ B cb, w.cell? (a.add i) = some (.slice B y.length cb) ∧ y.length ≤ cb ∧ BytesIn w B y.length y := by
      intro k
      induction k with
      | zero => intro _; exact ⟨[], rfl, by simp⟩
      | succ k ih =>
        intro hk
        obtain ⟨L, h1, h2⟩ := ih (by omega)
        obtain ⟨y, B, cb, h3, h4, h5⟩ := hex k (by omega)
        refine ⟨L ++ [y], by simp [h1], fun i z hz => ?_⟩
        rcases Nat.lt_or_ge i k with hik | hik
        · rw [List.getElem?_append_left (by omega)] at hz
          exact h2 i z hz
        · have hlt := (List.getElem?_eq_some_iff.1 hz).1
          simp [h1] at hlt
          obtain rfl : i = k := by omega
          rw [List.getElem?_append_right (by omega), h1, Nat.sub_self] at hz
          simp at hz
          subst hz
          exact ⟨B, cb, h3, h4, h5⟩
    obtain ⟨L, h1, h2⟩ := hw n (Nat.le_refl _)
    exact ⟨L, h1, by omega, fun i y hy => by
      obtain ⟨B, cb, h3, h4, h5⟩ := h2 i y hy
      exact ⟨a, B, cb, rfl, h3, h4, h5⟩⟩
end
end Go.Proofs.YtmhiekbpmoikfaaGreatDoor
