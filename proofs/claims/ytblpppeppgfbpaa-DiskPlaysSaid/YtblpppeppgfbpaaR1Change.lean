/- The document's disk: a change of the directory. -/
import Derived.Test.YtblpppeppgfbpaaR1Read
namespace Go.Proofs.Ytblpppeppgfbpaa
open Go.RowKit Go.Maps Go.WideMaps

theorem chCells_app (a b : List RCh) : chCells (a ++ b) = chCells a ++ chCells b := by
  induction a with
  | nil => rfl
  | cons p r ih => simp [chCells, ih]
theorem chInfo : (Try.prog.info? 92).map (fun i => (i.zero, i.size, i.bytes)) = some (some (.agg #[.string ⟨#[]⟩, .string ⟨#[]⟩, .int .i64 0]), 3, 40) := by kernel_rfl
/-- The directory and the changes have turned. -/
theorem IsR1.dirch {w w' : World} {b : Nat} {G : Nat → Prop} {r : RSt} {vi vc : Value} {A : Option Addr} {c : Nat} {B : Option Addr} {cb : Nat} {svs : List Value} (h : IsR1 w b G r vi vc A c B cb svs)
    (hs : w.heap.size ≤ w'.heap.size) (hb : ∀ i, i ≠ b → vc.ownBlock ≠ some i → i < w.heap.size → w'.heap[i]? = w.heap[i]?) {d' : Dir} {chs' : List RCh} {vc' : Value} {A' : Option Addr} {c' : Nat}
    (blk : Blk w' b 47 #[.int .i64 r.room, vi, .slice A' d'.length c', .slice B r.old.length cb, vc', .int .i64 r.done, .bool r.fused, .int .i64 r.left, .bool r.off])
    (hd : DirIn w' A' d'.length d') (hA : A' = A ∧ d' = r.dir ∨ ∀ ad, A' = some ad → w.heap.size ≤ ad.block)
    (hc : w'.ownsRow 0 92 3 vc' chs'.length (chCells chs')) (hvc : vc'.ownBlock = vc.ownBlock ∨ ∃ g, vc'.ownBlock = some g ∧ w.heap.size ≤ g ∧ ∀ ad, A' = some ad → 0 < d'.length → ad.block ≠ g)
    (wf : RWF { r with dir := d', chs := chs' }) :
    ∃ G', IsR1 w' b G' { r with dir := d', chs := chs' } vi vc' A' c' B cb svs ∧ ∀ i, G' i → G i ∨ (w.heap.size ≤ i ∧ i < w'.heap.size) := by
  have hbl := h.blk.lt
  have keepG : ∀ i, G i → w'.heap[i]? = w.heap[i]? := fun i hi => hb i (fun e => h.gb (e ▸ hi)) (fun e => h.gc i e hi) (h.glt i hi)
  refine ⟨fun i => G i ∨ ∃ ad, A' = some ad ∧ 0 < d'.length ∧ w.heap.size ≤ ad.block ∧ i = ad.block, ?_, ?_⟩
  · exact {
      wf := wf
      blk := blk
      ino := ownsRow_block h.ino fun g hg => hb g (fun e => own_blk_ne h.ino h.blk (by decide) (by rw [hg, e])) (own_row_ne h.ino h.chs (by decide) g hg) (h.ino.lt g hg).2
      isl := h.isl
      dat := fun i sv x e1 e2 => by
        obtain ⟨D, cd, k1, k2, k3, k4⟩ := h.dat i sv x e1 e2
        exact ⟨D, cd, k1, k2, ⟨k3.1, k3.2.1.keep fun ad e h0 => keepG _ (k4 ad e h0), fun ad e h0 => Nat.lt_of_lt_of_le (k3.2.2 ad e h0) hs⟩, fun ad e h0 => .inl (k4 ad e h0)⟩
      dir := hd
      dirG := fun ad e h0 => by
        rcases hA with ⟨h1, h2⟩ | h1
        · subst h1
          exact .inl (h.dirG ad e (by rw [← h2]; exact h0))
        · exact .inr ⟨ad, e, h0, h1 ad e, rfl⟩
      old := h.old.keep fun ad e h0 => keepG _ (h.oldG ad e h0)
      oldG := fun ad e h0 => .inl (h.oldG ad e h0)
      chs := hc
      gb := fun hg => by
        rcases hg with hg | ⟨ad, _, _, h1, h2⟩
        · exact h.gb hg
        · omega
      gi := fun g hg hG => by
        rcases hG with hG | ⟨ad, _, _, h1, h2⟩
        · exact h.gi g hg hG
        · have := (h.ino.lt g hg).2; omega
      gc := fun g hg hG => by
        rcases hvc with h3 | ⟨g', h3, h4, h5⟩
        · rw [h3] at hg
          rcases hG with hG | ⟨ad, _, _, h1, h2⟩
          · exact h.gc g hg hG
          · have := (h.chs.lt g hg).2; omega
        · rw [h3] at hg
          cases hg
          rcases hG with hG | ⟨ad, h0, h01, h1, h2⟩
          · have := h.glt _ hG; omega
          · exact h5 ad h0 h01 h2.symm
      glt := fun i hi => by
        rcases hi with hi | ⟨ad, h0, h01, h1, h2⟩
        · exact Nat.lt_of_lt_of_le (h.glt i hi) hs
        · rw [h2]; exact hd.lt ad h0 h01 }
  · rintro i (hi | ⟨ad, h0, h01, h1, h2⟩)
    · exact .inl hi
    · exact .inr (by rw [h2]; exact ⟨h1, hd.lt ad h0 h01⟩)

/-- How a call leaves the document's disk. -/
def R1Left (w : World) (F : Nat → Prop) (b : Nat) (n : Int) (r' : RSt) (e : Ending) (w' : World) : Prop :=
  e = .returned (.int .i64 n) ∧ ∃ F', R1At w' F' b r' ∧ Kept F w w' ∧ ∀ i, F' i → F i ∨ w.heap.size ≤ i
def rChange (r : RSt) (x : RCh) : RSt := rDid { r with dir := x.eff r.dir, chs := r.chs ++ [x] }
theorem eff_len (x : RCh) (d : Dir) : (x.eff d).length ≤ d.length + 1 := by
  have h1 := length_ddel d x.frm
  unfold RCh.eff
  split
  · split
    · omega
    · omega
  · split
    · exact length_dput d _ _
    · have := length_dput (ddel d x.frm) x.to x.file
      omega
theorem eff_file (x : RCh) (d : Dir) (m : Nat) (hd : ∀ p ∈ d, p.2 < m) (hx : x.to = [] ∨ x.file < m) : ∀ p ∈ x.eff d, p.2 < m := by
  intro p hp
  unfold RCh.eff at hp
  have h1 : ∀ q ∈ (if x.frm = [] then d else ddel d x.frm), q.2 < m := by
    intro q hq
    split at hq
    · exact hd q hq
    · exact hd q (mem_ddel.1 hq).1
  split at hp
  · exact h1 p hp
  · rename_i ht
    rcases mem_dput.1 hp with h | h
    · rw [h]
      rcases hx with h2 | h2
      · exact absurd h2 ht
      · exact h2
    · exact h1 p h.1
theorem change_wf {r : RSt} (h : RWF r) (x : RCh) (hd : r.dir.length < 100000) (hc : r.chs.length < 100000) (hx : x.to = [] ∨ x.file < r.ino.length) : RWF { r with dir := x.eff r.dir, chs := r.chs ++ [x] } :=
  { h with
    ndir := by have := eff_len x r.dir; show (x.eff r.dir).length ≤ _; omega
    nchs := by simp; omega
    fdir := eff_file x r.dir _ h.fdir hx
    fchs := fun c hc' => by
      rcases List.mem_append.1 hc' with h1 | h1
      · exact h.fchs c h1
      · rw [List.mem_singleton.1 h1]; exact hx }

set_option linter.unusedSimpArgs false in
set_option maxHeartbeats 4000000 in
set_option maxRecDepth 100000 in
theorem r1change_any (w : World) (F : Nat → Prop) (b : Nat) (r : RSt) (hR : R1At w F b r) (x : RCh) (hnd : r.dir.length < 100000) (hnc : r.chs.length < 100000) (hx : x.to = [] ∨ x.file < r.ino.length) (hdn : r.done < 100000) (hl : r.fused = true → 0 < r.left) :
    Calls Try.prog 70 #[at0 b, x.val] w (R1Left w F b 0 (rChange r x)) := by
  obtain ⟨G, vi, vc, A, c, B, cb, svs, h, hF, hlt⟩ := hR
  obtain ⟨i0, hi, hz0, hz1, hz2⟩ := info_parts chInfo
  have H := Lib.hid h
  have HF := Lib.hid hF
  have HLT := Lib.hid hlt
  have hbl := h.blk.lt
  have hwf := change_wf h.wf x hnd hnc hx
  have HWF := Lib.hid hwf
  have hvcb : ∀ g, vc.ownBlock = some g → g < w.heap.size := fun g hg => (h.chs.lt g hg).2
  have HVB := Lib.hid (show vc.ownBlock ≠ some b from own_blk_ne h.chs h.blk (by decide))
  have c2 := h.blk.cell 2
  simp at c2
  clear h hF hlt hwf hx
  unfold at0 RCh.val
  go_enter Try.func70, Try.ntmps70
  go_wp2_with fail
  refine wp_at ?_
  intro W1 hW1
  have hB1 : Below w.heap.size w W1 := by rw [hW1]; exact (Below.refl _ w).alloc (Nat.le_refl _) _
  have hX1 : Blk W1 w.heap.size 92 #[.string ⟨x.frm.toArray⟩, .string ⟨x.to.toArray⟩, .int .i64 x.file] := by rw [hW1]; exact Blk.new _ _ _
  have hs1 : W1.heap.size = w.heap.size + 1 := by rw [hW1]; simp
  have hb1 := H.out.blk.below hB1 hbl
  have k2 := hb1.cell 2
  simp at k2
  have hd1 := H.out.dir.below hB1
  have HCX := Lib.hid (show ∀ w' : World, w'.heap[w.heap.size]? = W1.heap[w.heap.size]? → (w'.cell? ⟨w.heap.size, 0, none⟩ = some (.string ⟨x.frm.toArray⟩) ∧ w'.cell? ⟨w.heap.size, 1, none⟩ = some (.string ⟨x.to.toArray⟩) ∧ w'.cell? ⟨w.heap.size, 2, none⟩ = some (.int .i64 x.file)) from fun w' hb => ⟨by simpa using (hX1.same hb).cell 0, by simpa using (hX1.same hb).cell 1, by simpa using (hX1.same hb).cell 2⟩)
  have HC := Lib.hid (show ∀ w', Below W1.heap.size W1 w' → (w'.cell? ⟨w.heap.size, 0, none⟩ = some (.string ⟨x.frm.toArray⟩) ∧ w'.cell? ⟨w.heap.size, 1, none⟩ = some (.string ⟨x.to.toArray⟩) ∧ w'.cell? ⟨w.heap.size, 2, none⟩ = some (.int .i64 x.file)) from fun w' hb => ⟨by simpa using (hX1.below hb (by omega)).cell 0, by simpa using (hX1.below hb (by omega)).cell 1, by simpa using (hX1.below hb (by omega)).cell 2⟩)
  have HD1 := Lib.hid hd1
  have HB1 := Lib.hid hB1
  have HX1 := Lib.hid hX1
  have HBK1 := Lib.hid hb1
  have hnd2 : r.dir.length ≤ 1000000 := by omega
  clear hW1 hd1 hB1 hX1 hb1 c2
  have k2' : W1.drew.cell? ⟨b, 2, none⟩ = some (.slice A r.dir.length c) := k2
  refine wp_region_held_drew (S := fun w' => w'.cell? ⟨w.heap.size, 0, none⟩ = some (.string ⟨x.frm.toArray⟩) ∧ w'.cell? ⟨w.heap.size, 1, none⟩ = some (.string ⟨x.to.toArray⟩) ∧ w'.cell? ⟨w.heap.size, 2, none⟩ = some (.int .i64 x.file)) (by kernel_rfl) (HC.out _ (Below.refl _ W1).drew) (fun hHeld => ?_)
  refine wpAnyH_take (i := 0) (oi := ?oi0) (v := ?v0) ?hi0 (by kernel_rfl) (by kernel_rfl) (by kernel_rfl) ?hQ0 (Or.inl ⟨?hw0, ?hy0⟩) (by assumption) ?rest0
  case hi0 => (first | (simp only [List.getElem?_toArray, List.getElem?_cons_zero, List.getElem?_cons_succ]; rfl) | rfl)
  case hQ0 => exact fun _ _ _ h => h
  case hw0 => rfl
  case hy0 => ((intro w hSw; go_simp); first | done | with_reducible rfl)
  try simp only [Act.put, List.setIfInBounds_toArray, List.set_cons_zero, List.set_cons_succ]
  refine wpAnyH_take (i := 1) (oi := ?oi1) (v := ?v1) ?hi1 (by kernel_rfl) (by kernel_rfl) (by kernel_rfl) ?hQ1 (Or.inl ⟨?hw1, ?hy1⟩) (by assumption) ?rest1
  case hi1 => (first | (simp only [List.getElem?_toArray, List.getElem?_cons_zero, List.getElem?_cons_succ]; rfl) | rfl)
  case hQ1 => exact fun _ _ _ h => h
  case hw1 => rfl
  case hy1 => ((intro w hSw; go_simp); first | done | with_reducible rfl)
  try simp only [Act.put, List.setIfInBounds_toArray, List.set_cons_zero, List.set_cons_succ]
  refine wpAnyH_take (i := 2) (oi := ?oi2) (v := ?v2) ?hi2 (by kernel_rfl) (by kernel_rfl) (by kernel_rfl) ?hQ2 (Or.inl ⟨?hw2, ?hy2⟩) (by assumption) ?rest2
  case hi2 => (first | (simp only [List.getElem?_toArray, List.getElem?_cons_zero, List.getElem?_cons_succ]; rfl) | rfl)
  case hQ2 => exact fun _ _ _ h => h
  case hw2 => rfl
  case hy2 => ((intro w hSw; go_simp); first | done | with_reducible rfl)
  try simp only [Act.put, List.setIfInBounds_toArray, List.set_cons_zero, List.set_cons_succ]
  refine wpAnyH_take (i := 3) (oi := ?oi3) (v := ?v3) ?hi3 (by kernel_rfl) (by kernel_rfl) (by kernel_rfl) ?hQ3 (Or.inl ⟨?hw3, ?hy3⟩) (by assumption) ?rest3
  case hi3 => (first | (simp only [List.getElem?_toArray, List.getElem?_cons_zero, List.getElem?_cons_succ]; rfl) | rfl)
  case hQ3 => exact fun _ _ _ h => h
  case hw3 => rfl
  case hy3 => ((intro w hSw; go_simp); first | done | with_reducible rfl)
  try simp only [Act.put, List.setIfInBounds_toArray, List.set_cons_zero, List.set_cons_succ]
  refine wpAnyH_take (i := 5) (oi := ?oi5) (v := ?v5) ?hi5 (by kernel_rfl) (by kernel_rfl) (by kernel_rfl) ?hQ5 (Or.inl ⟨?hw5, ?hy5⟩) (by assumption) ?rest5
  case hi5 => (first | (simp only [List.getElem?_toArray, List.getElem?_cons_zero, List.getElem?_cons_succ]; rfl) | rfl)
  case hQ5 => exact fun _ _ _ h => h
  case hw5 => rfl
  case hy5 => ((intro w hSw; go_simp); first | done | with_reducible rfl)
  try simp only [Act.put, List.setIfInBounds_toArray, List.set_cons_zero, List.set_cons_succ]
  refine wpAnyH_ready (rs := [4]) (by kernel_rfl) (by simp) ?_
  refine AllReadyH.cons (o := ?oA) ?hiA ?stepA AllReadyH.nil
  case hiA => (simp only [List.getElem?_toArray, List.getElem?_cons_zero, List.getElem?_cons_succ]; rfl)
  intro K hK
  go_simp
  refine hK.out _ _ hHeld (fun hHeldA => ?_)
  clear hK K
  try simp only [Act.put, List.setIfInBounds_toArray, List.set_cons_zero, List.set_cons_succ]
  refine wpAnyH_ready (rs := [6]) (by kernel_rfl) (by simp) ?_
  refine AllReadyH.cons (o := ?oB) ?hiB ?stepB AllReadyH.nil
  case hiB => (simp only [List.getElem?_toArray, List.getElem?_cons_zero, List.getElem?_cons_succ]; rfl)
  intro K hK
  go_simp
  refine (r1changed_any _ A r.dir.length c r.dir (HD1.out.below (Below.refl _ W1).drew) hnd2 x).mono ?_
  rintro e w2 ⟨A', c', rfl, hd2, hA2, hB2⟩
  have hB2' : Below W1.heap.size W1 w2 := below_then (Below.refl _ W1).drew hB2 (Nat.le_refl _)
  have HB2 := Lib.hid hB2'
  have HD2 := Lib.hid hd2
  have HA2 := Lib.hid hA2
  have hbk2 := HBK1.out.below hB2' (by omega)
  have m2 := hbk2.cell 2
  have m2z := hbk2.frozen 2
  simp at m2
  have HBK2 := Lib.hid hbk2
  clear hB2 hB2' hd2 hA2 hbk2
  go_wp2_with fail
  refine hK.out _ _ (HC.out _ HB2.out) (fun hHeldB => ?_)
  clear hK K
  try simp only [Act.put, List.setIfInBounds_toArray, List.set_cons_zero, List.set_cons_succ]
  refine wpAnyH_take (i := 7) (oi := ?oi7) (v := ?v7) ?hi7 (by kernel_rfl) (by kernel_rfl) (by kernel_rfl) ?hQ7 (Or.inl ⟨?hw7, ?hy7⟩) (by assumption) ?rest7
  case hi7 => (first | (simp only [List.getElem?_toArray, List.getElem?_cons_zero, List.getElem?_cons_succ]; rfl) | rfl)
  case hQ7 => exact fun _ _ _ h => h
  case hw7 => rfl
  case hy7 => ((intro w hSw; go_simp); first | done | with_reducible rfl)
  try simp only [Act.put, List.setIfInBounds_toArray, List.set_cons_zero, List.set_cons_succ]
  refine wpAnyH_take (i := 8) (oi := ?oi8) (v := ?v8) ?hi8 (by kernel_rfl) (by kernel_rfl) (by kernel_rfl) ?hQ8 (Or.inl ⟨?hw8, ?hy8⟩) (by assumption) ?rest8
  case hi8 => (first | (simp only [List.getElem?_toArray, List.getElem?_cons_zero, List.getElem?_cons_succ]; rfl) | rfl)
  case hQ8 => exact fun _ _ _ h => h
  case hw8 => rfl
  case hy8 => ((intro w hSw; go_simp); first | done | with_reducible rfl)
  try simp only [Act.put, List.setIfInBounds_toArray, List.set_cons_zero, List.set_cons_succ]
  refine wpAnyH_ready (rs := [9]) (by kernel_rfl) (by simp) ?_
  refine AllReadyH.cons (o := ?oC) ?hiC ?stepC AllReadyH.nil
  case hiC => (simp only [List.getElem?_toArray, List.getElem?_cons_zero, List.getElem?_cons_succ]; rfl)
  intro K hK
  go_simp
  refine hK.out _ _ (HCX.out _ ((heap_setCell_other _ _ _ (by show w.heap.size ≠ b; omega)).trans (HB2.out.block _ (by omega)))) (fun hHeldC => ?_)
  clear hK K
  try simp only [Act.put, List.setIfInBounds_toArray, List.set_cons_zero, List.set_cons_succ]
  refine wpAnyH_done (by kernel_rfl) ?_ _
  clear hHeld hHeldA hHeldB hHeldC
  go_wp2_with fail
  refine wp_at ?_
  intro w3 hw3
  have KO := Lib.hid (show ∀ w' : World, w'.os = w3.os → w'.tape = w3.tape → w'.output = w3.output → w'.os = w.os ∧ w'.tape = w.tape ∧ w'.output = w.output from fun w' h1 h2 h3 => by rw [h1, h2, h3, hw3]; exact ⟨HB2.out.os.trans HB1.out.os, HB2.out.tape.trans HB1.out.tape, HB2.out.output.trans HB1.out.output⟩)
  obtain ⟨n', hn'⟩ : ∃ n', n' = (x.eff r.dir).length := ⟨_, rfl⟩
  have hs2 := HB2.out.size
  have hs3 : w3.heap.size = w2.heap.size := by rw [hw3]; simp [World.setCell]
  have hX3 : w3.heap[w.heap.size]? = W1.heap[w.heap.size]? := by rw [hw3]; exact (heap_setCell_other _ _ _ (by show w.heap.size ≠ b; omega)).trans (HB2.out.block _ (by omega))
  have hK3 : ∀ i, i ≠ b → i < W1.heap.size → w3.heap[i]? = W1.heap[i]? := fun i hi hl => by rw [hw3]; exact (heap_setCell_other _ _ _ hi).trans (HB2.out.block _ hl)
  have hbk3 : Blk w3 b 47 #[.int .i64 r.room, vi, .slice A' (x.eff r.dir).length c', .slice B r.old.length cb, vc, .int .i64 r.done, .bool r.fused, .int .i64 r.left, .bool r.off] := by rw [hw3]; simpa using HBK2.out.set_ 2 (.slice A' (x.eff r.dir).length c')
  have hA3 : A' = A ∧ x.eff r.dir = r.dir ∨ ∀ ad, A' = some ad → w.heap.size ≤ ad.block := by
    rcases HA2.out with h | h
    · exact .inl h
    · exact .inr fun ad e => by have := h ad e; have hsz : W1.drew.heap.size = W1.heap.size := rfl; omega
  have hd3 : DirIn w3 A' (x.eff r.dir).length (x.eff r.dir) := HD2.out.keep fun ad e h0 => by
    rw [hw3]
    refine heap_setCell_other _ _ _ fun e2 => ?_
    have e3 : ad.block = b := e2
    rcases hA3 with ⟨h1, h2⟩ | h1
    · subst h1
      exact H.out.gb (by rw [← e3]; exact H.out.dirG ad e (by rw [← h2]; exact h0))
    · have := h1 ad e; omega
  have hc3 : w3.ownsRow 0 92 3 vc r.chs.length (chCells r.chs) := ownsRow_block H.out.chs fun g hg => (hK3 g (fun e => HVB.out (by rw [hg, e])) (by have := hvcb g hg; omega)).trans (HB1.out.block g (hvcb g hg))
  have m4 := hbk3.cell 4
  simp at m4
  have m4a : w3.drew.cell? ⟨b, 4, none⟩ = some vc := m4
  have HBK3 := Lib.hid hbk3
  have HK3 := Lib.hid hK3
  have HX3 := Lib.hid hX3
  have HD3 := Lib.hid hd3
  have HA3 := Lib.hid hA3
  have HC3 := Lib.hid hc3
  have HN' := Lib.hid hn'
  have hb3 : b < w3.heap.size := by omega
  have hs3' : w.heap.size + 1 ≤ w3.heap.size := by omega
  clear hs3
  have m4b : (w3.alloc (.cells #[.string ⟨x.frm.toArray⟩, .string ⟨x.to.toArray⟩, .int .i64 x.file] 92)).drew.cell? ⟨b, 4, none⟩ = some vc := Lib.cell?_alloc_some (W := w3) _ m4a
  clear hw3 hX3 hK3 hbk3 hd3 hA3 hc3 hn' m2 m2z k2 k2' HC HB2 HD2 HA2 HBK2 HD1 HBK1 m4
  refine wp_region_held_drew (S := fun w' => w'.cell? ⟨w.heap.size, 0, none⟩ = some (.string ⟨x.frm.toArray⟩) ∧ w'.cell? ⟨w.heap.size, 1, none⟩ = some (.string ⟨x.to.toArray⟩) ∧ w'.cell? ⟨w.heap.size, 2, none⟩ = some (.int .i64 x.file)) (by kernel_rfl) (HCX.out _ HX3.out) (fun hHeld => ?_)
  refine wpAnyH_take (i := 0) (oi := ?oir0) (v := ?vr0) ?hir0 (by kernel_rfl) (by kernel_rfl) (by kernel_rfl) ?hQr0 (Or.inl ⟨?hwr0, ?hyr0⟩) (by assumption) ?restr0
  case hir0 => (first | (simp only [List.getElem?_toArray, List.getElem?_cons_zero, List.getElem?_cons_succ]; rfl) | rfl)
  case hQr0 => exact fun _ _ _ h => h
  case hwr0 => rfl
  case hyr0 => ((intro w hSw; go_simp); first | done | with_reducible rfl)
  try simp only [Act.put, List.setIfInBounds_toArray, List.set_cons_zero, List.set_cons_succ]
  refine wpAnyH_take (i := 1) (oi := ?oir1) (v := ?vr1) ?hir1 (by kernel_rfl) (by kernel_rfl) (by kernel_rfl) ?hQr1 (Or.inl ⟨?hwr1, ?hyr1⟩) (by assumption) ?restr1
  case hir1 => (first | (simp only [List.getElem?_toArray, List.getElem?_cons_zero, List.getElem?_cons_succ]; rfl) | rfl)
  case hQr1 => exact fun _ _ _ h => h
  case hwr1 => rfl
  case hyr1 => ((intro w hSw; go_simp); first | done | with_reducible rfl)
  try simp only [Act.put, List.setIfInBounds_toArray, List.set_cons_zero, List.set_cons_succ]
  refine wpAnyH_take (i := 2) (oi := ?oir2) (v := ?vr2) ?hir2 (by kernel_rfl) (by kernel_rfl) (by kernel_rfl) ?hQr2 (Or.inl ⟨?hwr2, ?hyr2⟩) (by assumption) ?restr2
  case hir2 => (first | (simp only [List.getElem?_toArray, List.getElem?_cons_zero, List.getElem?_cons_succ]; rfl) | rfl)
  case hQr2 => exact fun _ _ _ h => h
  case hwr2 => rfl
  case hyr2 => ((intro w hSw; go_simp); first | done | with_reducible rfl)
  try simp only [Act.put, List.setIfInBounds_toArray, List.set_cons_zero, List.set_cons_succ]
  refine wpAnyH_take (i := 3) (oi := ?oir3) (v := ?vr3) ?hir3 (by kernel_rfl) (by kernel_rfl) (by kernel_rfl) ?hQr3 (Or.inl ⟨?hwr3, ?hyr3⟩) (by assumption) ?restr3
  case hir3 => (first | (simp only [List.getElem?_toArray, List.getElem?_cons_zero, List.getElem?_cons_succ]; rfl) | rfl)
  case hQr3 => exact fun _ _ _ h => h
  case hwr3 => rfl
  case hyr3 => ((intro w hSw; go_simp); first | done | with_reducible rfl)
  try simp only [Act.put, List.setIfInBounds_toArray, List.set_cons_zero, List.set_cons_succ]
  refine wpAnyH_take (i := 5) (oi := ?oir5) (v := ?vr5) ?hir5 (by kernel_rfl) (by kernel_rfl) (by kernel_rfl) ?hQr5 (Or.inl ⟨?hwr5, ?hyr5⟩) (by assumption) ?restr5
  case hir5 => (first | (simp only [List.getElem?_toArray, List.getElem?_cons_zero, List.getElem?_cons_succ]; rfl) | rfl)
  case hQr5 => exact fun _ _ _ h => h
  case hwr5 => rfl
  case hyr5 => ((intro w hSw; go_simp); first | done | with_reducible rfl)
  try simp only [Act.put, List.setIfInBounds_toArray, List.set_cons_zero, List.set_cons_succ]
  refine wpAnyH_ready (rs := [4, 6]) (by kernel_rfl) (by simp) ?_
  refine AllReadyH.cons (o := ?oP) ?hiP ?stepP (AllReadyH.cons (o := ?oQ) ?hiQ ?stepQ AllReadyH.nil)
  case hiP => (simp only [List.getElem?_toArray, List.getElem?_cons_zero, List.getElem?_cons_succ]; rfl)
  case hiQ => (simp only [List.getElem?_toArray, List.getElem?_cons_zero, List.getElem?_cons_succ]; rfl)
  case stepP =>
    intro K hK
    go_simp
    refine hK.out _ _ hHeld (fun hHeldA => ?_)
    clear hK K
    try simp only [Act.put, List.setIfInBounds_toArray, List.set_cons_zero, List.set_cons_succ]
    refine wpAnyH_ready (rs := [6]) (by kernel_rfl) (by simp) ?_
    refine AllReadyH.cons (o := ?oPA) ?hiPA ?stepPA AllReadyH.nil
    case hiPA => (simp only [List.getElem?_toArray, List.getElem?_cons_zero, List.getElem?_cons_succ]; rfl)
    intro K hK
    go_simp
    refine hK.out _ _ (HCX.out _ ((Below.heap_alloc w3 _ _ (by show w.heap.size < w3.heap.size; omega)).trans HX3.out)) (fun hHeldB => ?_)
    clear hK K
    try simp only [Act.put, List.setIfInBounds_toArray, List.set_cons_zero, List.set_cons_succ]
    refine wpAnyH_ready (rs := [7]) (by kernel_rfl) (by simp) ?_
    refine AllReadyH.cons (o := ?oPB) ?hiPB ?stepPB AllReadyH.nil
    case hiPB => (simp only [List.getElem?_toArray, List.getElem?_cons_zero, List.getElem?_cons_succ]; rfl)
    intro K hK
    refine step_append_rec _ rfl (.tmp 18) (.tmp 20) 45 rfl 0 92 i0 _ 3 40 Try.underlying45 hi hz0 hz1 hz2 rfl (by decide) vc r.chs.length (chCells r.chs) rfl (World.ownsRow.alloc (w := w3) HC3.out _) ⟨w3.heap.size, 0, none⟩ 1 1 [.string ⟨x.frm.toArray⟩, .string ⟨x.to.toArray⟩, .int .i64 x.file] rfl rfl (by intro i u hu; rw [Addr.add_mid]; exact (show (w3.alloc (.cells #[.string ⟨x.frm.toArray⟩, .string ⟨x.to.toArray⟩, .int .i64 x.file] 92)).cell? ⟨w3.heap.size, 0 + i, none⟩ = some u from by rw [cell_of_row _ _ _ _ _ _ (heap_alloc_new w3 _)]; simpa using hu)) (by intro u hu; simp at hu; rcases hu with rfl | rfl | rfl <;> rfl) (by unfold maxLen; omega) (by omega) (Nat.zero_le _) ?_
    intro v5 w5 hown5 hg5 hloc5
    obtain ⟨A5, c5, rfl⟩ := own_slice hown5
    have hX5 : w5.heap[w.heap.size]? = W1.heap[w.heap.size]? := ((hg5.block _ (by simp; omega) (fun e => by have := hvcb _ e.symm; omega)).trans (Below.heap_alloc w3 _ _ (by show w.heap.size < w3.heap.size; omega))).trans HX3.out
    have hbk5 : Blk w5 b 47 #[.int .i64 r.room, vi, .slice A' (x.eff r.dir).length c', .slice B r.old.length cb, vc, .int .i64 r.done, .bool r.fused, .int .i64 r.left, .bool r.off] := (Blk.drew (Blk.alloc (w := w3) HBK3.out _)).grown hg5 (fun e => HVB.out e.symm)
    have n4 := hbk5.cell 4
    have n4z := hbk5.frozen 4
    simp at n4
    have HG5 := Lib.hid hg5
    have HO5 := Lib.hid hown5
    have HL5 := Lib.hid hloc5
    have HBK5 := Lib.hid hbk5
    have HX5 := Lib.hid hX5
    clear hg5 hown5 hloc5 hbk5 hX5
    refine hK.out _ _ (HCX.out _ HX5.out) (fun hHeldD => ?_)
    clear hK K
    try simp only [Act.put, List.setIfInBounds_toArray, List.set_cons_zero, List.set_cons_succ]
    refine wpAnyH_take (i := 8) (oi := ?oip8) (v := ?vp8) ?hip8 (by kernel_rfl) (by kernel_rfl) (by kernel_rfl) ?hQp8 (Or.inl ⟨?hwp8, ?hyp8⟩) (by assumption) ?restp8
    case hip8 => (first | (simp only [List.getElem?_toArray, List.getElem?_cons_zero, List.getElem?_cons_succ]; rfl) | rfl)
    case hQp8 => exact fun _ _ _ h => h
    case hwp8 => rfl
    case hyp8 => ((intro w hSw; go_simp); first | done | with_reducible rfl)
    try simp only [Act.put, List.setIfInBounds_toArray, List.set_cons_zero, List.set_cons_succ]
    refine wpAnyH_take (i := 9) (oi := ?oip9) (v := ?vp9) ?hip9 (by kernel_rfl) (by kernel_rfl) (by kernel_rfl) ?hQp9 (Or.inl ⟨?hwp9, ?hyp9⟩) (by assumption) ?restp9
    case hip9 => (first | (simp only [List.getElem?_toArray, List.getElem?_cons_zero, List.getElem?_cons_succ]; rfl) | rfl)
    case hQp9 => exact fun _ _ _ h => h
    case hwp9 => rfl
    case hyp9 => ((intro w hSw; go_simp); first | done | with_reducible rfl)
    try simp only [Act.put, List.setIfInBounds_toArray, List.set_cons_zero, List.set_cons_succ]
    refine wpAnyH_ready (rs := [10]) (by kernel_rfl) (by simp) ?_
    refine AllReadyH.cons (o := ?opZ) ?hipZ ?steppZ AllReadyH.nil
    case hipZ => (simp only [List.getElem?_toArray, List.getElem?_cons_zero, List.getElem?_cons_succ]; rfl)
    intro K hK
    go_simp
    refine hK.out _ _ (HCX.out _ ((heap_setCell_other w5 ⟨b, 4, none⟩ (.slice A5 (r.chs.length + 1) c5) (by show w.heap.size ≠ b; omega)).trans HX5.out)) (fun hHeldE => ?_)
    clear hK K
    try simp only [Act.put, List.setIfInBounds_toArray, List.set_cons_zero, List.set_cons_succ]
    refine wpAnyH_done (by kernel_rfl) ?_ _
    have hst5 : w3.heap.size + 1 ≤ w5.heap.size := by have := HG5.out.size; simp at this; exact this
    have hb5 : ∀ i, i ≠ b → vc.ownBlock ≠ some i → i < w.heap.size → (w5.setCell ⟨b, 4, none⟩ (.slice A5 (r.chs.length + 1) c5)).heap[i]? = w.heap[i]? := fun i h1 h2 h3 =>
      (heap_setCell_other _ _ _ h1).trans (((HG5.out.block i (by simp; omega) (fun e => h2 e.symm)).trans (Below.heap_alloc w3 _ _ (by show i < w3.heap.size; omega))).trans ((HK3.out i h1 (by omega)).trans (HB1.out.block i h3)))
    have hv5b : (Value.slice A5 (r.chs.length + 1) c5).ownBlock ≠ some b := own_blk_ne HO5.out HBK5.out (by decide)
    have hd5 : DirIn (w5.setCell ⟨b, 4, none⟩ (.slice A5 (r.chs.length + 1) c5)) A' (x.eff r.dir).length (x.eff r.dir) := HD3.out.keep fun ad e h0 => by
      have hlt := HD3.out.lt ad e h0
      have hnb : ad.block ≠ b := fun e3 => by
        rcases HA3.out with ⟨h1, h2⟩ | h1
        · subst h1
          exact H.out.gb (by rw [← e3]; exact H.out.dirG ad e (by rw [← h2]; exact h0))
        · have := h1 ad e; omega
      have hnv : vc.ownBlock ≠ some ad.block := fun e3 => by
        rcases HA3.out with ⟨h1, h2⟩ | h1
        · subst h1
          exact H.out.gc _ e3 (H.out.dirG ad e (by rw [← h2]; exact h0))
        · have := h1 ad e; have := hvcb _ e3; omega
      exact (heap_setCell_other _ _ _ hnb).trans ((HG5.out.block _ (by simp; omega) (fun e3 => hnv e3.symm)).trans (Below.heap_alloc w3 _ _ hlt))
    obtain ⟨G', hI, hG'⟩ := H.out.dirch (w' := w5.setCell ⟨b, 4, none⟩ (.slice A5 (r.chs.length + 1) c5)) (by simp [World.setCell]; omega) hb5 (d' := x.eff r.dir) (chs' := r.chs ++ [x]) (vc' := .slice A5 (r.chs.length + 1) c5) (A' := A') (c' := c') (by simpa using HBK5.out.set_ 4 (.slice A5 (r.chs.length + 1) c5)) hd5 HA3.out
      (by
        have h1 := ownsRow_block HO5.out (w' := w5.setCell ⟨b, 4, none⟩ (.slice A5 (r.chs.length + 1) c5)) fun g hg => heap_setCell_other _ _ _ (fun e => hv5b (by rw [hg, e]))
        rw [List.length_append, chCells_app]
        exact h1)
      (by
        rcases HL5.out with h1 | h1
        · exact .inl h1
        · refine .inr ⟨_, h1, by simp; omega, fun ad e h0 => ?_⟩
          have := HD3.out.lt ad e h0
          simp
          omega) HWF.out
    have hR6 : R1At (w5.setCell ⟨b, 4, none⟩ (.slice A5 (r.chs.length + 1) c5)) (Own F w (w5.setCell ⟨b, 4, none⟩ (.slice A5 (r.chs.length + 1) c5))) b { r with dir := x.eff r.dir, chs := r.chs ++ [x] } := by
      refine ⟨G', vi, (.slice A5 (r.chs.length + 1) c5), A', c', B, cb, svs, hI, fun i hi => ?_, fun i hi => ?_⟩
      · rcases hi with h1 | h1 | h1 | h1
        · exact .inl (HF.out i (.inl h1))
        · exact .inl (HF.out i (.inr (.inl h1)))
        · have h2 := (hI.chs.lt i h1).2
          rcases HL5.out with h3 | h3
          · exact .inl (HF.out i (.inr (.inr (.inl (by rw [← h3]; exact h1)))))
          · rw [h3] at h1
            cases h1
            exact .inr ⟨by simp; omega, h2⟩
        · rcases hG' i h1 with h2 | h2
          · exact .inl (HF.out i (.inr (.inr (.inr h2))))
          · exact .inr h2
      · rcases hi with h1 | h1
        · have := HLT.out i h1; simp [World.setCell]; omega
        · exact h1.2
    have hkept : Kept F w (w5.setCell ⟨b, 4, none⟩ (.slice A5 (r.chs.length + 1) c5)) := by
      have hk1 : w5.os = w.os ∧ w5.tape = w.tape ∧ w5.output = w.output := KO.out w5 HG5.out.os HG5.out.tape HG5.out.output
      refine ⟨hk1.1, hk1.2.1, hk1.2.2, by simp [World.setCell]; omega, fun i hi hn => hb5 i (fun e => hn (HF.out i (.inl e))) (fun e => hn (HF.out i (.inr (.inr (.inl e))))) hi⟩
    have HR6 := Lib.hid hR6
    have HKP := Lib.hid hkept
    clear hb5 hv5b hd5 hI hG' hR6 hkept
    go_wp2_with fail
    refine (r1did_any _ _ b _ HR6.out hdn hl).mono ?_
    rintro e w7 ⟨rfl, hR7, hK7⟩
    go_wp2
    go_ret
    have hs6 : w.heap.size ≤ (w5.setCell ⟨b, 4, none⟩ (.slice A5 (r.chs.length + 1) c5)).heap.size := HKP.out.size
    exact ⟨rfl, _, hR7, HKP.out.trans hK7 (fun i _ e => HF.out i (.inl e)), fun i hi => hi.imp id (·.1)⟩
  case stepQ =>
    intro K hK
    go_simp
    refine hK.out _ _ (HCX.out _ ((Below.heap_alloc w3 _ _ (by show w.heap.size < w3.heap.size; omega)).trans HX3.out)) (fun hHeldA => ?_)
    clear hK K
    try simp only [Act.put, List.setIfInBounds_toArray, List.set_cons_zero, List.set_cons_succ]
    refine wpAnyH_ready (rs := [4]) (by kernel_rfl) (by simp) ?_
    refine AllReadyH.cons (o := ?oQA) ?hiQA ?stepQA AllReadyH.nil
    case hiQA => (simp only [List.getElem?_toArray, List.getElem?_cons_zero, List.getElem?_cons_succ]; rfl)
    intro K hK
    go_simp
    refine hK.out _ _ hHeldA (fun hHeldB => ?_)
    clear hK K
    try simp only [Act.put, List.setIfInBounds_toArray, List.set_cons_zero, List.set_cons_succ]
    refine wpAnyH_ready (rs := [7]) (by kernel_rfl) (by simp) ?_
    refine AllReadyH.cons (o := ?oQB) ?hiQB ?stepQB AllReadyH.nil
    case hiQB => (simp only [List.getElem?_toArray, List.getElem?_cons_zero, List.getElem?_cons_succ]; rfl)
    intro K hK
    refine step_append_rec _ rfl (.tmp 18) (.tmp 20) 45 rfl 0 92 i0 _ 3 40 Try.underlying45 hi hz0 hz1 hz2 rfl (by decide) vc r.chs.length (chCells r.chs) rfl (World.ownsRow.alloc (w := w3) HC3.out _) ⟨w3.heap.size, 0, none⟩ 1 1 [.string ⟨x.frm.toArray⟩, .string ⟨x.to.toArray⟩, .int .i64 x.file] rfl rfl (by intro i u hu; rw [Addr.add_mid]; exact (show (w3.alloc (.cells #[.string ⟨x.frm.toArray⟩, .string ⟨x.to.toArray⟩, .int .i64 x.file] 92)).cell? ⟨w3.heap.size, 0 + i, none⟩ = some u from by rw [cell_of_row _ _ _ _ _ _ (heap_alloc_new w3 _)]; simpa using hu)) (by intro u hu; simp at hu; rcases hu with rfl | rfl | rfl <;> rfl) (by unfold maxLen; omega) (by omega) (Nat.zero_le _) ?_
    intro v5 w5 hown5 hg5 hloc5
    obtain ⟨A5, c5, rfl⟩ := own_slice hown5
    have hX5 : w5.heap[w.heap.size]? = W1.heap[w.heap.size]? := ((hg5.block _ (by simp; omega) (fun e => by have := hvcb _ e.symm; omega)).trans (Below.heap_alloc w3 _ _ (by show w.heap.size < w3.heap.size; omega))).trans HX3.out
    have hbk5 : Blk w5 b 47 #[.int .i64 r.room, vi, .slice A' (x.eff r.dir).length c', .slice B r.old.length cb, vc, .int .i64 r.done, .bool r.fused, .int .i64 r.left, .bool r.off] := (Blk.drew (Blk.alloc (w := w3) HBK3.out _)).grown hg5 (fun e => HVB.out e.symm)
    have n4 := hbk5.cell 4
    have n4z := hbk5.frozen 4
    simp at n4
    have HG5 := Lib.hid hg5
    have HO5 := Lib.hid hown5
    have HL5 := Lib.hid hloc5
    have HBK5 := Lib.hid hbk5
    have HX5 := Lib.hid hX5
    clear hg5 hown5 hloc5 hbk5 hX5
    refine hK.out _ _ (HCX.out _ HX5.out) (fun hHeldD => ?_)
    clear hK K
    try simp only [Act.put, List.setIfInBounds_toArray, List.set_cons_zero, List.set_cons_succ]
    refine wpAnyH_take (i := 8) (oi := ?oiq8) (v := ?vq8) ?hiq8 (by kernel_rfl) (by kernel_rfl) (by kernel_rfl) ?hQq8 (Or.inl ⟨?hwq8, ?hyq8⟩) (by assumption) ?restq8
    case hiq8 => (first | (simp only [List.getElem?_toArray, List.getElem?_cons_zero, List.getElem?_cons_succ]; rfl) | rfl)
    case hQq8 => exact fun _ _ _ h => h
    case hwq8 => rfl
    case hyq8 => ((intro w hSw; go_simp); first | done | with_reducible rfl)
    try simp only [Act.put, List.setIfInBounds_toArray, List.set_cons_zero, List.set_cons_succ]
    refine wpAnyH_take (i := 9) (oi := ?oiq9) (v := ?vq9) ?hiq9 (by kernel_rfl) (by kernel_rfl) (by kernel_rfl) ?hQq9 (Or.inl ⟨?hwq9, ?hyq9⟩) (by assumption) ?restq9
    case hiq9 => (first | (simp only [List.getElem?_toArray, List.getElem?_cons_zero, List.getElem?_cons_succ]; rfl) | rfl)
    case hQq9 => exact fun _ _ _ h => h
    case hwq9 => rfl
    case hyq9 => ((intro w hSw; go_simp); first | done | with_reducible rfl)
    try simp only [Act.put, List.setIfInBounds_toArray, List.set_cons_zero, List.set_cons_succ]
    refine wpAnyH_ready (rs := [10]) (by kernel_rfl) (by simp) ?_
    refine AllReadyH.cons (o := ?oqZ) ?hiqZ ?stepqZ AllReadyH.nil
    case hiqZ => (simp only [List.getElem?_toArray, List.getElem?_cons_zero, List.getElem?_cons_succ]; rfl)
    intro K hK
    go_simp
    refine hK.out _ _ (HCX.out _ ((heap_setCell_other w5 ⟨b, 4, none⟩ (.slice A5 (r.chs.length + 1) c5) (by show w.heap.size ≠ b; omega)).trans HX5.out)) (fun hHeldE => ?_)
    clear hK K
    try simp only [Act.put, List.setIfInBounds_toArray, List.set_cons_zero, List.set_cons_succ]
    refine wpAnyH_done (by kernel_rfl) ?_ _
    have hst5 : w3.heap.size + 1 ≤ w5.heap.size := by have := HG5.out.size; simp at this; exact this
    have hb5 : ∀ i, i ≠ b → vc.ownBlock ≠ some i → i < w.heap.size → (w5.setCell ⟨b, 4, none⟩ (.slice A5 (r.chs.length + 1) c5)).heap[i]? = w.heap[i]? := fun i h1 h2 h3 =>
      (heap_setCell_other _ _ _ h1).trans (((HG5.out.block i (by simp; omega) (fun e => h2 e.symm)).trans (Below.heap_alloc w3 _ _ (by show i < w3.heap.size; omega))).trans ((HK3.out i h1 (by omega)).trans (HB1.out.block i h3)))
    have hv5b : (Value.slice A5 (r.chs.length + 1) c5).ownBlock ≠ some b := own_blk_ne HO5.out HBK5.out (by decide)
    have hd5 : DirIn (w5.setCell ⟨b, 4, none⟩ (.slice A5 (r.chs.length + 1) c5)) A' (x.eff r.dir).length (x.eff r.dir) := HD3.out.keep fun ad e h0 => by
      have hlt := HD3.out.lt ad e h0
      have hnb : ad.block ≠ b := fun e3 => by
        rcases HA3.out with ⟨h1, h2⟩ | h1
        · subst h1
          exact H.out.gb (by rw [← e3]; exact H.out.dirG ad e (by rw [← h2]; exact h0))
        · have := h1 ad e; omega
      have hnv : vc.ownBlock ≠ some ad.block := fun e3 => by
        rcases HA3.out with ⟨h1, h2⟩ | h1
        · subst h1
          exact H.out.gc _ e3 (H.out.dirG ad e (by rw [← h2]; exact h0))
        · have := h1 ad e; have := hvcb _ e3; omega
      exact (heap_setCell_other _ _ _ hnb).trans ((HG5.out.block _ (by simp; omega) (fun e3 => hnv e3.symm)).trans (Below.heap_alloc w3 _ _ hlt))
    obtain ⟨G', hI, hG'⟩ := H.out.dirch (w' := w5.setCell ⟨b, 4, none⟩ (.slice A5 (r.chs.length + 1) c5)) (by simp [World.setCell]; omega) hb5 (d' := x.eff r.dir) (chs' := r.chs ++ [x]) (vc' := .slice A5 (r.chs.length + 1) c5) (A' := A') (c' := c') (by simpa using HBK5.out.set_ 4 (.slice A5 (r.chs.length + 1) c5)) hd5 HA3.out
      (by
        have h1 := ownsRow_block HO5.out (w' := w5.setCell ⟨b, 4, none⟩ (.slice A5 (r.chs.length + 1) c5)) fun g hg => heap_setCell_other _ _ _ (fun e => hv5b (by rw [hg, e]))
        rw [List.length_append, chCells_app]
        exact h1)
      (by
        rcases HL5.out with h1 | h1
        · exact .inl h1
        · refine .inr ⟨_, h1, by simp; omega, fun ad e h0 => ?_⟩
          have := HD3.out.lt ad e h0
          simp
          omega) HWF.out
    have hR6 : R1At (w5.setCell ⟨b, 4, none⟩ (.slice A5 (r.chs.length + 1) c5)) (Own F w (w5.setCell ⟨b, 4, none⟩ (.slice A5 (r.chs.length + 1) c5))) b { r with dir := x.eff r.dir, chs := r.chs ++ [x] } := by
      refine ⟨G', vi, (.slice A5 (r.chs.length + 1) c5), A', c', B, cb, svs, hI, fun i hi => ?_, fun i hi => ?_⟩
      · rcases hi with h1 | h1 | h1 | h1
        · exact .inl (HF.out i (.inl h1))
        · exact .inl (HF.out i (.inr (.inl h1)))
        · have h2 := (hI.chs.lt i h1).2
          rcases HL5.out with h3 | h3
          · exact .inl (HF.out i (.inr (.inr (.inl (by rw [← h3]; exact h1)))))
          · rw [h3] at h1
            cases h1
            exact .inr ⟨by simp; omega, h2⟩
        · rcases hG' i h1 with h2 | h2
          · exact .inl (HF.out i (.inr (.inr (.inr h2))))
          · exact .inr h2
      · rcases hi with h1 | h1
        · have := HLT.out i h1; simp [World.setCell]; omega
        · exact h1.2
    have hkept : Kept F w (w5.setCell ⟨b, 4, none⟩ (.slice A5 (r.chs.length + 1) c5)) := by
      have hk1 : w5.os = w.os ∧ w5.tape = w.tape ∧ w5.output = w.output := KO.out w5 HG5.out.os HG5.out.tape HG5.out.output
      refine ⟨hk1.1, hk1.2.1, hk1.2.2, by simp [World.setCell]; omega, fun i hi hn => hb5 i (fun e => hn (HF.out i (.inl e))) (fun e => hn (HF.out i (.inr (.inr (.inl e))))) hi⟩
    have HR6 := Lib.hid hR6
    have HKP := Lib.hid hkept
    clear hb5 hv5b hd5 hI hG' hR6 hkept
    go_wp2_with fail
    refine (r1did_any _ _ b _ HR6.out hdn hl).mono ?_
    rintro e w7 ⟨rfl, hR7, hK7⟩
    go_wp2
    go_ret
    have hs6 : w.heap.size ≤ (w5.setCell ⟨b, 4, none⟩ (.slice A5 (r.chs.length + 1) c5)).heap.size := HKP.out.size
    exact ⟨rfl, _, hR7, HKP.out.trans hK7 (fun i _ e => HF.out i (.inl e)), fun i hi => hi.imp id (·.1)⟩
end Go.Proofs.Ytblpppeppgfbpaa
