/- A vocabulary's own rows, changed. -/
import Derived.Test.YtecpihghlelefaaVGet0
import Derived.Test.YtecpihghlelefaaVRef3
namespace Go.Proofs.Ytecpihghlelefaa
open Go.RowKit Go.Maps Go.WideMaps
set_option linter.unusedSimpArgs false

structure OwnV (w : World) (F : Nat → Prop) (V : Voc) (tv mv : Value) (svs : List Value) : Prop where
  trow : w.ownsRow 0 23 1 tv V.tok.length svs
  toks : ∀ (i : Nat) (sv : Value) (x : Nm), svs[i]? = some sv → V.tok[i]? = some x → TokIn w F sv x
  mrow : w.ownsRow 0 25 3 mv V.mer.length (V.mer.flatMap mgCells)
  fits : ∀ m ∈ V.mer, mgFits m
  fv : ∀ g, tv.ownBlock = some g → F g
  fm : ∀ g, mv.ownBlock = some g → F g
  lt : ∀ i, F i → i < w.heap.size
theorem OwnV.nil (w : World) : OwnV w (fun _ => False) ⟨[], []⟩ (.slice none 0 0) (.slice none 0 0) [] where
  trow := World.ownsRow_nil _ _ _ _
  toks := fun i sv x h1 _ => by simp at h1
  mrow := World.ownsRow_nil _ _ _ _
  fits := fun m h => by simp at h
  fv := fun g h => by simp [Value.ownBlock] at h
  fm := fun g h => by simp [Value.ownBlock] at h
  lt := fun i h => h.elim
theorem IsRV.ownV {w : World} {F : Nat → Prop} {b : Nat} {V : Voc} {tv mv : Value} {svs : List Value} (h : IsRV w F b V tv mv svs) : OwnV w F V tv mv svs := ⟨h.trow, h.toks, h.mrow, h.fits, h.fv, h.fm, h.lt⟩
theorem OwnV.kept {w w' : World} {F : Nat → Prop} {V : Voc} {tv mv : Value} {svs : List Value} (h : OwnV w F V tv mv svs) (hb : Below w.heap.size w w') : OwnV w' F V tv mv svs where
  trow := ownsRow_block h.trow fun g hg => hb.block g (h.lt g (h.fv g hg))
  toks := fun i sv x h1 h2 => (h.toks i sv x h1 h2).mono (G := fun _ => False) (Kept.below hb) (fun _ => False.elim) (fun _ hf => .inl hf)
  mrow := ownsRow_block h.mrow fun g hg => hb.block g (h.lt g (h.fm g hg))
  fits := h.fits
  fv := h.fv
  fm := h.fm
  lt := fun i hi => Nat.lt_of_lt_of_le (h.lt i hi) hb.size
theorem OwnV.far {w w' : World} {F : Nat → Prop} {V : Voc} {tv mv : Value} {svs : List Value} (h : OwnV w F V tv mv svs) {g : Nat} (hk : Kept (fun i => i = g) w w') (hg : ¬ F g)
    (ht : ∀ (A : Option Addr) (x : Nm), BytesIn w A x.length x → ∀ ad, A = some ad → 0 < x.length → ad.block ≠ g) : OwnV w' F V tv mv svs where
  trow := ownsRow_kept h.trow hk fun g' hg' e => hg (e ▸ h.fv g' hg')
  toks := fun i sv x h1 h2 => by
    obtain ⟨A, c, e1, e2, e3, e4⟩ := h.toks i sv x h1 h2
    exact ⟨A, c, e1, e2, e3.keptF hk (ht A x e3), e4⟩
  mrow := ownsRow_kept h.mrow hk fun g' hg' e => hg (e ▸ h.fm g' hg')
  fits := h.fits
  fv := h.fv
  fm := h.fm
  lt := fun i hi => Nat.lt_of_lt_of_le (h.lt i hi) hk.size
theorem OwnV.see {w : World} {F : Nat → Prop} {V : Voc} {tv mv : Value} {svs : List Value} (h : OwnV w F V tv mv svs) (hl : V.tok.length ≤ 1048576) (hm : V.mer.length ≤ 1048576) :
    ∃ A B ca cb, tv = .slice A V.tok.length ca ∧ mv = .slice B V.mer.length cb ∧ VocSee w A B V.tok.length V.mer.length ca cb V := by
  obtain ⟨A, ca, e1, c1⟩ := own_cap h.trow
  obtain ⟨B, cb, e2⟩ := own_slice h.mrow
  have ht := h.trow
  have hmr := h.mrow
  rw [e1] at ht
  rw [e2] at hmr
  obtain ⟨h3, h4⟩ := ownRows_see ht rfl (by unfold maxLen; omega) (fun i sv x h1 h2 => by
    obtain ⟨A', c', a1, a2, a3, _⟩ := h.toks i sv x h1 h2
    exact ⟨A', c', a1, a2, a3⟩)
  obtain ⟨h5, h6⟩ := MgSee.own hmr rfl (by unfold maxLen; omega) h.fits
  exact ⟨A, B, ca, cb, e1, e2, h3, h5, h4, h6⟩
/-- A token more. -/
theorem OwnV.tokApp {w w2 : World} {F : Nat → Prop} {V : Voc} {tv tv' mv sv : Value} {svs : List Value} {x : Nm} (h : OwnV w F V tv mv svs) (hx : TokIn w F sv x)
    (hown : w2.ownsRow 0 23 1 tv' (V.tok.length + 1) (svs ++ [sv])) (hg : w.grownBy w2 tv.ownBlock) (hloc : tv'.ownBlock = tv.ownBlock ∨ tv'.ownBlock = some w.heap.size) :
    OwnV w2 (Own F w w2) ⟨V.tok ++ [x], V.mer⟩ tv' mv (svs ++ [sv]) ∧ Kept F w w2 := by
  have hkp : Kept F w w2 := (Kept.refl F w).grown hg (fun g e => .inl (h.fv g e))
  have hF : ∀ i, Own F w w2 i → F i ∨ w.heap.size ≤ i := fun i hi => hi.imp id (·.1)
  have hcl : svs.length = V.tok.length := by have := h.trow.1; simpa using this
  have hs2 := hg.size
  refine ⟨?_, hkp⟩
  exact {
    trow := by
      show World.ownsRow _ 0 23 1 _ (V.tok ++ [x]).length _
      rw [List.length_append, List.length_singleton]
      exact hown
    toks := fun i sv' y h1 h2 => by
      have h2' : (V.tok ++ [x])[i]? = some y := h2
      rcases Nat.lt_or_ge i V.tok.length with hik | hik
      · rw [List.getElem?_append_left (by omega)] at h1
        rw [List.getElem?_append_left hik] at h2'
        exact (h.toks i sv' y h1 h2').mono hkp (fun _ hf => hf) hF
      · have hi' := (List.getElem?_eq_some_iff.1 h2').1
        rw [List.length_append, List.length_singleton] at hi'
        obtain rfl : i = V.tok.length := by omega
        rw [List.getElem?_append_right (by omega), hcl, Nat.sub_self] at h1
        rw [List.getElem?_append_right (Nat.le_refl _), Nat.sub_self] at h2'
        cases h1
        cases h2'
        exact hx.mono hkp (fun _ hf => hf) hF
    mrow := ownsRow_block h.mrow fun g e => hg.block g (h.lt g (h.fm g e)) (fun e2 => own_row_ne h.trow h.mrow (by decide) g e2.symm e)
    fits := h.fits
    fv := fun g e => by
      rcases hloc with hl | hl
      · exact .inl (h.fv g (hl.symm.trans e))
      · have hlt := (hown.lt g e).2
        rw [hl] at e
        simp at e
        exact .inr ⟨by omega, by omega⟩
    fm := fun g e => .inl (h.fm g e)
    lt := fun i hi => by
      rcases hi with hi | hi
      · have := h.lt i hi; omega
      · exact hi.2 }
/-- A merge more. -/
theorem OwnV.merApp {w w2 : World} {F : Nat → Prop} {V : Voc} {tv mv mv' : Value} {svs : List Value} {m : Mg} (h : OwnV w F V tv mv svs) (hm : mgFits m)
    (hown : w2.ownsRow 0 25 3 mv' (V.mer.length + 1) (V.mer.flatMap mgCells ++ mgCells m)) (hg : w.grownBy w2 mv.ownBlock) (hloc : mv'.ownBlock = mv.ownBlock ∨ mv'.ownBlock = some w.heap.size) :
    OwnV w2 (Own F w w2) ⟨V.tok, V.mer ++ [m]⟩ tv mv' svs ∧ Kept F w w2 := by
  have hkp : Kept F w w2 := (Kept.refl F w).grown hg (fun g e => .inl (h.fm g e))
  have hF : ∀ i, Own F w w2 i → F i ∨ w.heap.size ≤ i := fun i hi => hi.imp id (·.1)
  have hs2 := hg.size
  refine ⟨?_, hkp⟩
  exact {
    trow := ownsRow_block h.trow fun g e => hg.block g (h.lt g (h.fv g e)) (fun e2 => own_row_ne h.trow h.mrow (by decide) g e e2.symm)
    toks := fun i sv' y h1 h2 => (h.toks i sv' y h1 h2).mono hkp (fun _ hf => hf) hF
    mrow := by
      show World.ownsRow _ 0 25 3 _ (V.mer ++ [m]).length ((V.mer ++ [m]).flatMap mgCells)
      rw [List.length_append, List.length_singleton, List.flatMap_append, List.flatMap_singleton]
      exact hown
    fits := fun m' hm' => by
      rcases List.mem_append.1 hm' with h1 | h1
      · exact h.fits m' h1
      · rw [List.mem_singleton.1 h1]; exact hm
    fv := fun g e => .inl (h.fv g e)
    fm := fun g e => by
      rcases hloc with hl | hl
      · exact .inl (h.fm g (hl.symm.trans e))
      · have hlt := (hown.lt g e).2
        rw [hl] at e
        simp at e
        exact .inr ⟨by omega, by omega⟩
    lt := fun i hi => by
      rcases hi with hi | hi
      · have := h.lt i hi; omega
      · exact hi.2 }
/-- A token in the place of another. -/
theorem OwnV.tokSet {w : World} {F : Nat → Prop} {V : Voc} {g c : Nat} {mv sv : Value} {svs : List Value} {x : Nm} {k : Nat} (h : OwnV w F V (.slice (some ⟨g, 0, none⟩) V.tok.length c) mv svs) (hx : TokIn w F sv x) :
    OwnV (w.setCell ⟨g, k, none⟩ sv) F ⟨V.tok.set k x, V.mer⟩ (.slice (some ⟨g, 0, none⟩) V.tok.length c) mv (svs.set k sv) ∧ Kept F w (w.setCell ⟨g, k, none⟩ sv) := by
  have hFg := h.fv g rfl
  have hkp : Kept F w (w.setCell ⟨g, k, none⟩ sv) := (Kept.refl F w).setCell (p := ⟨g, k, none⟩) (.inl hFg) _
  refine ⟨?_, hkp⟩
  exact {
    trow := by
      show World.ownsRow _ 0 23 1 _ (V.tok.set k x).length _
      rw [List.length_set]
      exact (h.trow.stored k sv).1
    toks := fun i sv' y h1 h2 => by
      have h2' : (V.tok.set k x)[i]? = some y := h2
      by_cases hik : k = i
      · subst hik
        have hl1 := (List.getElem?_eq_some_iff.1 h1).1
        have hl2 := (List.getElem?_eq_some_iff.1 h2').1
        rw [List.length_set] at hl1 hl2
        rw [List.getElem?_set_self hl1] at h1
        rw [List.getElem?_set_self hl2] at h2'
        cases h1
        cases h2'
        exact hx.mono hkp (fun _ hf => hf) (fun _ hf => .inl hf)
      · rw [List.getElem?_set_ne hik] at h1 h2'
        exact (h.toks i sv' y h1 h2').mono hkp (fun _ hf => hf) (fun _ hf => .inl hf)
    mrow := ownsRow_block h.mrow fun g' e => heap_setCell_other _ _ _ (fun e2 => own_row_ne h.trow h.mrow (by decide) g rfl (by rw [e, e2]))
    fits := h.fits
    fv := h.fv
    fm := h.fm
    lt := fun i hi => by rw [size_setCell']; exact h.lt i hi }
theorem mgCells_set : ∀ (M : List Mg) (k : Nat) (m : Mg), k < M.length → (((M.flatMap mgCells).set (k * 3) (.int .i64 m.a)).set (k * 3 + 1) (.int .i64 m.b)).set (k * 3 + 2) (.int .i64 m.t) = (M.set k m).flatMap mgCells
  | [], k, m, h => by simp at h
  | x :: r, 0, m, _ => by simp [mgCells]
  | x :: r, k + 1, m, h => by
    have ih := mgCells_set r k m (by simpa using h)
    have e : (k + 1) * 3 = k * 3 + 1 + 1 + 1 := by omega
    rw [List.set_cons_succ, List.flatMap_cons, List.flatMap_cons, ← ih, e]
    simp only [mgCells, List.cons_append, List.nil_append, List.set_cons_succ, Nat.add_right_comm _ 1 1]
/-- A merge in the place of another. -/
theorem OwnV.merSet {w : World} {F : Nat → Prop} {V : Voc} {g c : Nat} {tv : Value} {svs : List Value} {m : Mg} {k : Nat} (h : OwnV w F V tv (.slice (some ⟨g, 0, none⟩) V.mer.length c) svs) (hm : mgFits m) (hk : k < V.mer.length) {w' : World}
    (hw : w' = ((w.setCell ⟨g, k * 3, none⟩ (.int .i64 m.a)).setCell ⟨g, k * 3 + 1, none⟩ (.int .i64 m.b)).setCell ⟨g, k * 3 + 2, none⟩ (.int .i64 m.t)) :
    OwnV w' F ⟨V.tok, V.mer.set k m⟩ tv (.slice (some ⟨g, 0, none⟩) V.mer.length c) svs ∧ Kept F w w' := by
  have hFg := h.fm g rfl
  have hkp : Kept F w w' := by rw [hw]; exact (((Kept.refl F w).setCell (p := ⟨g, k * 3, none⟩) (.inl hFg) _).setCell (p := ⟨g, k * 3 + 1, none⟩) (.inl hFg) _).setCell (p := ⟨g, k * 3 + 2, none⟩) (.inl hFg) _
  have hsz : w'.heap.size = w.heap.size := by rw [hw, size_setCell', size_setCell', size_setCell']
  have hoth : ∀ i, i ≠ g → w'.heap[i]? = w.heap[i]? := fun i hi => by rw [hw, heap_setCell_other _ _ _ hi, heap_setCell_other _ _ _ hi, heap_setCell_other _ _ _ hi]
  refine ⟨?_, hkp⟩
  exact {
    trow := ownsRow_block h.trow fun g' e => hoth g' (fun e2 => own_row_ne h.trow h.mrow (by decide) g' e (by rw [e2]; rfl))
    toks := fun i sv' y h1 h2 => (h.toks i sv' y h1 h2).mono hkp (fun _ hf => hf) (fun _ hf => .inl hf)
    mrow := by
      show World.ownsRow _ 0 25 3 _ (V.mer.set k m).length ((V.mer.set k m).flatMap mgCells)
      rw [List.length_set, ← mgCells_set V.mer k m hk, hw]
      exact (((h.mrow.stored (k * 3) (.int .i64 m.a)).1.stored (k * 3 + 1) (.int .i64 m.b)).1.stored (k * 3 + 2) (.int .i64 m.t)).1
    fits := fun m' hm' => by
      rcases List.mem_or_eq_of_mem_set hm' with h1 | h1
      · exact h.fits m' h1
      · rw [h1]; exact hm
    fv := h.fv
    fm := h.fm
    lt := fun i hi => by rw [hsz]; exact h.lt i hi }
theorem VocSee.upto {w : World} {A B : Option Addr} {n m ca cb : Nat} {V : Voc} (h : VocSee w A B n m ca cb V) (k : Nat) (hk : k ≤ n) : VocSee w A B k m ca cb ⟨V.tok.take k, V.mer⟩ :=
  ⟨h.tok.upto k hk, h.mer, Nat.le_trans hk h.capT, h.capM⟩
/-- The document's change of a vocabulary. -/
def changeV (V : Voc) (kd a : Int) (tk : Nm) (m : Mg) : Voc :=
  if kd = 0 then (if 0 ≤ a ∧ a < V.tok.length then ⟨V.tok.set a.toNat tk, V.mer⟩ else ⟨V.tok ++ [tk], V.mer⟩)
  else if kd = 1 then (if 0 ≤ a ∧ a < V.mer.length then ⟨V.tok, V.mer.set a.toNat m⟩ else ⟨V.tok, V.mer ++ [m]⟩)
  else if kd = 2 ∧ 0 ≤ a ∧ a < V.tok.length then ⟨V.tok.take a.toNat, V.mer⟩ else V
end Go.Proofs.Ytecpihghlelefaa
