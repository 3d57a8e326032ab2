/- The document's own growing vocabulary: two rows of its own, in a variable. -/
import Derived.Test.YtimbimnbaoaboaaVRows2
import Derived.Test.YtimbimnbaoaboaaVSee
import Derived.Lib.ConvBytes
namespace Go.Proofs.Ytimbimnbaoaboaa
open Go.RowKit Go.Maps Go.WideMaps
set_option linter.unusedSimpArgs false

structure IsRV (w : World) (F : Nat → Prop) (b : Nat) (V : Voc) (tv mv : Value) (svs : List Value) : Prop where
  blk : Blk w b 29 #[tv, mv]
  trow : w.ownsRow 0 23 1 tv V.tok.length svs
  toks : ∀ (i : Nat) (sv : Value) (x : Nm), svs[i]? = some sv → V.tok[i]? = some x → TokIn w F sv x
  mrow : w.ownsRow 0 46 3 mv V.mer.length (V.mer.flatMap mgCells)
  fits : ∀ m ∈ V.mer, mgFits m
  fb : F b
  fv : ∀ g, tv.ownBlock = some g → F g
  fm : ∀ g, mv.ownBlock = some g → F g
  lt : ∀ i, F i → i < w.heap.size
theorem IsRV.kept {w w' : World} {F : Nat → Prop} {b : Nat} {V : Voc} {tv mv : Value} {svs : List Value} (h : IsRV w F b V tv mv svs) (hb : Below w.heap.size w w') : IsRV w' F b V tv mv svs where
  blk := h.blk.same (hb.block _ (h.lt _ h.fb))
  trow := ownsRow_block h.trow fun g hg => hb.block g (h.lt g (h.fv g hg))
  toks := fun i sv x h1 h2 => (h.toks i sv x h1 h2).mono (G := fun _ => False) (Kept.below hb) (fun _ => False.elim) (fun _ hf => .inl hf)
  mrow := ownsRow_block h.mrow fun g hg => hb.block g (h.lt g (h.fm g hg))
  fits := h.fits
  fb := h.fb
  fv := h.fv
  fm := h.fm
  lt := fun i hi => Nat.lt_of_lt_of_le (h.lt i hi) hb.size
/-- A token more, behind an append and a store. -/
theorem IsRV.addTok {w w2 : World} {F : Nat → Prop} {b : Nat} {V : Voc} {tv tv' mv sv : Value} {svs : List Value} {x : Nm} (h : IsRV w F b V tv mv svs) (hx : TokIn w F sv x)
    (hown : w2.ownsRow 0 23 1 tv' (V.tok.length + 1) (svs ++ [sv])) (hg : w.grownBy w2 tv.ownBlock) (hloc : tv'.ownBlock = tv.ownBlock ∨ tv'.ownBlock = some w.heap.size) :
    IsRV (w2.setCell ⟨b, 0, none⟩ tv') (Own F w (w2.setCell ⟨b, 0, none⟩ tv')) b ⟨V.tok ++ [x], V.mer⟩ tv' mv (svs ++ [sv]) ∧ Kept F w (w2.setCell ⟨b, 0, none⟩ tv') := by
  have hnb : tv.ownBlock ≠ some b := own_blk_ne h.trow h.blk (by decide)
  have hblk2 : Blk w2 b 29 #[tv, mv] := h.blk.grown hg (fun e => hnb e.symm)
  have hsz : (w2.setCell ⟨b, 0, none⟩ tv').heap.size = w2.heap.size := size_setCell' _ _ _
  have hs2 := hg.size
  have hkp : Kept F w (w2.setCell ⟨b, 0, none⟩ tv') := ((Kept.refl F w).grown hg (fun g e => .inl (h.fv g e))).setCell (.inl h.fb) _
  have hF : ∀ i, Own F w (w2.setCell ⟨b, 0, none⟩ tv') i → F i ∨ w.heap.size ≤ i := fun i hi => hi.imp id (·.1)
  have hcl : svs.length = V.tok.length := by have := h.trow.1; simpa using this
  have hold : ∀ i, i < w.heap.size → i ≠ b → tv.ownBlock ≠ some i → (w2.setCell ⟨b, 0, none⟩ tv').heap[i]? = w.heap[i]? := fun i h0 h1 h2 => by
    rw [heap_setCell_other _ _ _ h1, hg.block i h0 (fun e => h2 e.symm)]
  refine ⟨?_, hkp⟩
  exact {
    blk := by have := hblk2.set_ 0 tv'; simpa using this
    trow := by
      show World.ownsRow _ 0 23 1 _ (V.tok ++ [x]).length _
      rw [List.length_append, List.length_singleton]
      exact ownsRow_block hown fun g e => heap_setCell_other _ _ _ fun e2 => own_blk_ne hown hblk2 (by decide) (by rw [e, e2])
    toks := fun i sv' y h1 h2 => by
      have h2' : (V.tok ++ [x])[i]? = some y := h2
      rcases Nat.lt_or_ge i V.tok.length with hik | hik
      · rw [List.getElem?_append_left (by omega)] at h1
        rw [List.getElem?_append_left hik] at h2'
        exact (h.toks i sv' y h1 h2').mono hkp (fun _ hf => hf) hF
      · have hi' := (List.getElem?_eq_some_iff.1 h2').1
        rw [List.length_append, List.length_singleton] at hi'
        obtain rfl : i = V.tok.length := by omega
        rw [List.getElem?_append_right (by omega), hcl, Nat.sub_self] at h1
        rw [List.getElem?_append_right (Nat.le_refl _), Nat.sub_self] at h2'
        cases h1
        cases h2'
        exact hx.mono hkp (fun _ hf => hf) hF
    mrow := ownsRow_block h.mrow fun g e => by
      have hgl := h.lt g (h.fm g e)
      exact hold g hgl (fun e2 => own_blk_ne h.mrow h.blk (by decide) (by rw [e, e2])) (fun e2 => own_row_ne h.trow h.mrow (by decide) g e2 e)
    fits := h.fits
    fb := .inl h.fb
    fv := fun g e => by
      rcases hloc with hl | hl
      · exact .inl (h.fv g (hl.symm.trans e))
      · have hlt := (hown.lt g e).2
        rw [hl] at e
        simp at e
        exact .inr ⟨by omega, by omega⟩
    fm := fun g e => .inl (h.fm g e)
    lt := fun i hi => by
      rcases hi with hi | hi
      · have := h.lt i hi; omega
      · exact hi.2 }
/-- A merge more. -/
theorem IsRV.addMer {w w2 : World} {F : Nat → Prop} {b : Nat} {V : Voc} {tv mv mv' : Value} {svs : List Value} {m : Mg} (h : IsRV w F b V tv mv svs) (hm : mgFits m)
    (hown : w2.ownsRow 0 46 3 mv' (V.mer.length + 1) (V.mer.flatMap mgCells ++ mgCells m)) (hg : w.grownBy w2 mv.ownBlock) (hloc : mv'.ownBlock = mv.ownBlock ∨ mv'.ownBlock = some w.heap.size) :
    IsRV (w2.setCell ⟨b, 1, none⟩ mv') (Own F w (w2.setCell ⟨b, 1, none⟩ mv')) b ⟨V.tok, V.mer ++ [m]⟩ tv mv' svs ∧ Kept F w (w2.setCell ⟨b, 1, none⟩ mv') := by
  have hnb : mv.ownBlock ≠ some b := own_blk_ne h.mrow h.blk (by decide)
  have hblk2 : Blk w2 b 29 #[tv, mv] := h.blk.grown hg (fun e => hnb e.symm)
  have hsz : (w2.setCell ⟨b, 1, none⟩ mv').heap.size = w2.heap.size := size_setCell' _ _ _
  have hs2 := hg.size
  have hkp : Kept F w (w2.setCell ⟨b, 1, none⟩ mv') := ((Kept.refl F w).grown hg (fun g e => .inl (h.fm g e))).setCell (.inl h.fb) _
  have hF : ∀ i, Own F w (w2.setCell ⟨b, 1, none⟩ mv') i → F i ∨ w.heap.size ≤ i := fun i hi => hi.imp id (·.1)
  have hold : ∀ i, i < w.heap.size → i ≠ b → mv.ownBlock ≠ some i → (w2.setCell ⟨b, 1, none⟩ mv').heap[i]? = w.heap[i]? := fun i h0 h1 h2 => by
    rw [heap_setCell_other _ _ _ h1, hg.block i h0 (fun e => h2 e.symm)]
  refine ⟨?_, hkp⟩
  exact {
    blk := by have := hblk2.set_ 1 mv'; simpa using this
    trow := ownsRow_block h.trow fun g e => by
      have hgl := h.lt g (h.fv g e)
      exact hold g hgl (fun e2 => own_blk_ne h.trow h.blk (by decide) (by rw [e, e2])) (fun e2 => own_row_ne h.mrow h.trow (by decide) g e2 e)
    toks := fun i sv' y h1 h2 => (h.toks i sv' y h1 h2).mono hkp (fun _ hf => hf) hF
    mrow := by
      show World.ownsRow _ 0 46 3 _ (V.mer ++ [m]).length ((V.mer ++ [m]).flatMap mgCells)
      rw [List.length_append, List.length_singleton, List.flatMap_append, List.flatMap_singleton]
      exact ownsRow_block hown fun g e => heap_setCell_other _ _ _ fun e2 => own_blk_ne hown hblk2 (by decide) (by rw [e, e2])
    fits := fun m' hm' => by
      rcases List.mem_append.1 hm' with h1 | h1
      · exact h.fits m' h1
      · rw [List.mem_singleton.1 h1]; exact hm
    fb := .inl h.fb
    fv := fun g e => .inl (h.fv g e)
    fm := fun g e => by
      rcases hloc with hl | hl
      · exact .inl (h.fm g (hl.symm.trans e))
      · have hlt := (hown.lt g e).2
        rw [hl] at e
        simp at e
        exact .inr ⟨by omega, by omega⟩
    lt := fun i hi => by
      rcases hi with hi | hi
      · have := h.lt i hi; omega
      · exact hi.2 }
theorem IsRV.far {w w' : World} {F : Nat → Prop} {b : Nat} {V : Voc} {tv mv : Value} {svs : List Value} (h : IsRV w F b V tv mv svs) {g : Nat} (hk : Kept (fun i => i = g) w w') (hg : ¬ F g)
    (ht : ∀ (A : Option Addr) (x : Nm), BytesIn w A x.length x → ∀ ad, A = some ad → 0 < x.length → ad.block ≠ g) : IsRV w' F b V tv mv svs where
  blk := h.blk.kept hk (fun e => hg (e ▸ h.fb))
  trow := ownsRow_kept h.trow hk fun g' hg' e => hg (e ▸ h.fv g' hg')
  toks := fun i sv x h1 h2 => by
    obtain ⟨A, c, e1, e2, e3, e4⟩ := h.toks i sv x h1 h2
    exact ⟨A, c, e1, e2, e3.keptF hk (ht A x e3), e4⟩
  mrow := ownsRow_kept h.mrow hk fun g' hg' e => hg (e ▸ h.fm g' hg')
  fits := h.fits
  fb := h.fb
  fv := h.fv
  fm := h.fm
  lt := fun i hi => Nat.lt_of_lt_of_le (h.lt i hi) hk.size
/-- To be read. -/
theorem IsRV.see {w : World} {F : Nat → Prop} {b : Nat} {V : Voc} {tv mv : Value} {svs : List Value} (h : IsRV w F b V tv mv svs) (hl : V.tok.length ≤ 1048576) (hm : V.mer.length ≤ 1048576) :
    ∃ A B ca cb, tv = .slice A V.tok.length ca ∧ mv = .slice B V.mer.length cb ∧ VocSee w A B V.tok.length V.mer.length ca cb V := by
  obtain ⟨A, ca, e1, c1⟩ := own_cap h.trow
  obtain ⟨B, cb, e2⟩ := own_slice h.mrow
  have ht := h.trow
  have hmr := h.mrow
  rw [e1] at ht
  rw [e2] at hmr
  obtain ⟨h3, h4⟩ := ownRows_see ht rfl (by unfold maxLen; omega) (fun i sv x h1 h2 => by
    obtain ⟨A', c', a1, a2, a3, _⟩ := h.toks i sv x h1 h2
    exact ⟨A', c', a1, a2, a3⟩)
  obtain ⟨h5, h6⟩ := MgSee.own hmr rfl (by unfold maxLen; omega) h.fits
  exact ⟨A, B, ca, cb, e1, e2, h3, h5, h4, h6⟩
/-- A string's bytes, in a block of their own. -/
theorem bytes_of (w : World) (l : Nm) (hl : l.length ≤ 1099511627776) : ∃ c w', (convert 9 23 (.string ⟨l.toArray⟩)).run Try.prog w = .ok (.slice (some ⟨w.heap.size, 0, none⟩) l.length c) w' ∧ Below w.heap.size w w' ∧ BytesIn w' (some ⟨w.heap.size, 0, none⟩) l.length l ∧ l.length ≤ c ∧ w'.heap.size = w.heap.size + 1 := by
  have hr := Lib.run_convert_string_bytes (P := Try.prog) w 9 23 5 ⟨l.toArray⟩ Try.underlying9 Try.underlying23 Try.underlying5
  have hsz : (⟨l.toArray⟩ : ByteArray).size = l.length := by simp [ByteArray.size]
  rw [hsz] at hr
  have hG := grownCap_ge w l.length 0 5
  refine ⟨_, _, hr, ⟨rfl, rfl, rfl, by rw [Lib.bytesWorld_size]; omega, fun k hk => Lib.bytesWorld_at_old w 5 _ k hk⟩, ⟨by unfold maxLen; omega, ⟨by simp, fun ad e j u hu => ?_, fun e => by cases e⟩, fun ad e _ => by cases e; rw [Lib.bytesWorld_size]; simp⟩, hG, Lib.bytesWorld_size _ _ _⟩
  cases e
  rw [addr_add]
  rw [List.getElem?_map] at hu
  have hj : j < l.length := by
    rcases Nat.lt_or_ge j l.length with h | h
    · exact h
    · rw [List.getElem?_eq_none h] at hu; cases hu
  rw [List.getElem?_eq_getElem hj] at hu
  simp only [Option.map_some, Option.some.injEq] at hu
  rw [Lib.bytesWorld_cell w 5 _ j (by rw [hsz]; exact hj), ← hu]
  simp [byteV, List.getD_eq_getElem?_getD, hj]
end Go.Proofs.Ytimbimnbaoaboaa
