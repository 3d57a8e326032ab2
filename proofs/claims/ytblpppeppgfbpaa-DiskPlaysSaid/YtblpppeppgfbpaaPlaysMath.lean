/- Two disks side by side, the program's and the document's. -/
import Derived.Test.YtblpppeppgfbpaaR1Of
import Derived.Test.YtblpppeppgfbpaaPOf
import Derived.Test.YtblpppeppgfbpaaScript
import Derived.Test.YtblpppeppgfbpaaSame
namespace Go.Proofs.Ytblpppeppgfbpaa
open Go.RowKit Go.Maps Go.WideMaps

theorem FlIn.below {w w' : World} {o : FlV} (h : FlIn w o) (hb : Below w.heap.size w w') : FlIn w' o := ⟨h.a, h.b.below hb, h.bc, h.na, h.nb⟩
theorem FlsIn.below {w w' : World} {A : Option Addr} {n : Nat} {l : List FlV} (h : FlsIn w A n l) (hb : Below w.heap.size w w') : FlsIn w' A n l :=
  ⟨h.len, h.big, fun o ho => (h.op o ho).below hb, h.nil, fun ad e i o ho j v hv => below_cells hb (h.cells ad e i o ho j v hv), fun ad e hn => Nat.lt_of_lt_of_le (h.lt ad e hn) hb.size⟩
structure Pair (w0 w : World) (F : Nat → Prop) (b : Nat) (s : St) (E : Nat → Prop) (c : Nat) (r : RSt) (f : Nat → Nat) : Prop where
  mine : Mine w0 w F b s
  ref : R1At w E c r
  new : ∀ i, E i → w0.heap.size ≤ i
  apart : ∀ i, E i → ¬ F i
  sim : Sim s r f
theorem R1At.size {w : World} {F : Nat → Prop} {b : Nat} {r : RSt} (h : R1At w F b r) : ∀ i, F i → i < w.heap.size := by
  obtain ⟨G, vi, vc, A, c, B, cb, svs, h1, h2, h3⟩ := h
  exact h3
section
variable {w0 w w' : World} {F E : Nat → Prop} {b c : Nat} {s : St} {r : RSt} {f : Nat → Nat}
theorem Pair.later (h : Pair w0 w F b s E c r f) (hb : Below w.heap.size w w') : Pair w0 w' F b s E c r f :=
  ⟨h.mine.later hb, h.ref.kept (Kept.below (F := fun _ => False) hb) (fun _ _ => id), h.new, h.apart, h.sim⟩
theorem Pair.drewN (h : Pair w0 w F b s E c r f) (q : Nat) : Pair w0 (w.drewN q) F b s E c r f := h.later (below_drewN (Below.refl _ _) q)
theorem Pair.awayB (h : Pair w0 w F b s E c r f) {o : OpV} (ho : OpIn w0 o) : Away E o.B o.bn := fun ad e hn hf => by
  have := ho.b.2.2 ad e hn
  have := h.new _ hf
  omega
theorem Pair.awayC (h : Pair w0 w F b s E c r f) {o : OpV} (ho : OpIn w0 o) : Away E o.C o.k := fun ad e hn hf => by
  have := ho.c.2.2.2 ad e hn
  have := h.new _ hf
  omega
/-- The program's call is done: the other disk lies as it lay. -/
theorem Pair.done (h : Pair w0 w F b s E c r f) {T : Int → St → Prop} {e : Ending} (hl : Left w F b T e w') : ∃ (n : Int) (s' : St) (F' : Nat → Prop), e = .returned (.int .i64 n) ∧ T n s' ∧ Mine w0 w' F' b s' ∧ R1At w' E c r ∧ ∀ i, E i → ¬ F' i := by
  obtain ⟨n, s', F', he, hT, hD, hk, hF⟩ := hl
  refine ⟨n, s', F', he, hT, ⟨hD, fun i hi => ?_, h.mine.below.trans (hk.toBelow h.mine.below.size h.mine.new)⟩, h.ref.kept hk h.apart, fun i hi hf => ?_⟩
  · rcases hF i hi with h1 | h1
    · exact h.mine.new i h1
    · exact Nat.le_trans h.mine.below.size h1
  · rcases hF i hf with h1 | h1
    · exact h.apart i hi h1
    · have := h.ref.size i hi
      omega
/-- The document's call is done. -/
theorem Pair.twin {s' : St} {r' : RSt} {f' : Nat → Nat} {n : Int} {e : Ending} (hm : Mine w0 w F b s') (hE : ∀ i, E i → w0.heap.size ≤ i) (ha : ∀ i, E i → ¬ F i) (hs : Sim s' r' f') (hl : R1Left w E c n r' e w') :
    e = .returned (.int .i64 n) ∧ ∃ E', Pair w0 w' F b s' E' c r' f' := by
  obtain ⟨he, E', hR, hk, hF⟩ := hl
  refine ⟨he, E', ⟨hm.disk.kept hk (fun i hi hf => ha i hf hi), hm.new, hm.below.trans (hk.toBelow hm.below.size hE)⟩, hR, fun i hi => ?_, fun i hi hf => ?_, hs⟩
  · rcases hF i hi with h1 | h1
    · exact hE i h1
    · exact Nat.le_trans hm.below.size h1
  · rcases hF i hi with h1 | h1
    · exact ha i h1 hf
    · have := hm.disk.size i hf
      omega
end
theorem rDid_ino (r : RSt) : (rDid r).ino = r.ino := rfl
theorem rTwin_ino (r : RSt) (o : OpV) : (rTwin r o).2.ino.length ≤ r.ino.length + 1 := by
  have h1 : (rPower r).ino = r.ino := rfl
  unfold rTwin
  split
  · unfold rCreate
    split
    · rw [h1]; omega
    · split
      · simp
      · split
        · simp
        · split
          · simp
          · show (r.ino ++ [([], 0)]).length ≤ _
            simp
  · split
    · unfold rAppend
      split
      · rw [h1]; omega
      · split
        · simp
        · split
          · simp
          · split
            · simp
            · show (r.ino.set _ _).length ≤ _
              rw [List.length_set]; omega
    · split
      · unfold rSync
        split
        · rw [h1]; omega
        · split
          · simp
          · show (r.ino.set _ _).length ≤ _
            rw [List.length_set]; omega
      · split
        · unfold rRename
          split
          · rw [h1]; omega
          · split
            · simp
            · split
              · simp
              · split
                · show r.ino.length ≤ _; omega
                · show r.ino.length ≤ _; omega
        · split
          · unfold rRemove
            split
            · rw [h1]; omega
            · split
              · simp
              · show r.ino.length ≤ _; omega
          · split
            · unfold rSyncDir
              split
              · rw [h1]; omega
              · show r.ino.length ≤ _; omega
            · split
              · show r.ino.length ≤ _; omega
              · split
                · show (rCutN r.ino o.cs _ _).length ≤ _
                  rw [rCutN_len]; omega
                · simp
theorem Sim.sizes {s : St} {r : RSt} {f : Nat → Nat} (h : Sim s r f) (hw : WF s) (hm : s.mid = false) : r.dir.length ≤ 64 ∧ r.old.length ≤ 64 ∧ r.chs.length = s.chs.length ∧ r.done = s.acts := by
  have h1 := hw.nnow
  have h2 := hw.nold
  have h3 := (h.all 0).2
  rw [List.take_zero, List.take_zero] at h3
  have h4 : dmap f r.old = s.old := h3
  rw [← h.now hw hm, dmap_len] at h1
  rw [← h4, dmap_len] at h2
  exact ⟨h1, h2, h.len, h.acts⟩
end Go.Proofs.Ytblpppeppgfbpaa
