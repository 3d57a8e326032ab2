/- A token more. -/
import Derived.Test.YtimbimnbaoaboaaVGrow3
import Derived.StillTailTactics
import Derived.Maps.AppendAt
namespace Go.Proofs.Ytimbimnbaoaboaa
open Go.RowKit Go.Maps Go.WideMaps

theorem BytesIn.keptF {w w' : World} {F : Nat → Prop} {A : Option Addr} {n : Nat} {l : Nm} (h : BytesIn w A n l) (hk : Kept F w w') (ha : ∀ ad, A = some ad → 0 < n → ¬ F ad.block) : BytesIn w' A n l :=
  ⟨h.1, h.2.1.keep fun ad e h0 => hk.block _ (h.2.2 ad e h0) (ha ad e h0), fun ad e h0 => Nat.lt_of_lt_of_le (h.2.2 ad e h0) hk.size⟩
theorem key_str {x : Nm} (h : x.length ≤ maxLen) : keyOf Try.prog 9 (.string ⟨x.toArray⟩) = some (.string x) := by
  have := keyOf_string_mk Try.underlying9 (s := ⟨x.toArray⟩) (by simpa [ByteArray.size] using h)
  simpa using this
set_option maxHeartbeats 8000000 in
set_option maxRecDepth 100000 in
theorem addToken_any (w : World) (F : Nat → Prop) (b : Nat) (V : Voc) (hG : Grow w F b V) (A : Option Addr) (n c : Nat) (x : Nm) (hx : TokIn w F (.slice A n c) x) (hnew : findT V.tok x < 0) (hl : V.tok.length < 1048576) :
    Calls Try.prog 33 #[at0 b, .slice A n c] w fun e w' => e = .returned (.int .i64 V.tok.length) ∧ Grow w' (Own F w w') b ⟨V.tok ++ [x], V.mer⟩ ∧ Kept F w w' := by
  obtain ⟨tv, mv, bt, bp, svs, DT, DP, h⟩ := hG
  obtain ⟨A', c', e1, hc, hA, hap⟩ := hx
  cases e1
  obtain ⟨At, ct, rfl⟩ := own_slice h.trow
  obtain ⟨i0, hi, hz0, hz1, hz2⟩ := info_parts rowInfo
  have HH := Lib.hid h
  have HA := Lib.hid hA
  have HAP := Lib.hid hap
  have HNEW := Lib.hid hnew
  have HC := Lib.hid hc
  obtain ⟨k, hk⟩ : ∃ k, k = V.tok.length := ⟨_, rfl⟩
  have g0 := h.blk.cell 0
  simp only [List.getElem?_toArray, List.getElem?_cons_zero] at g0
  have hrow := h.trow
  have hfv := h.fv
  rw [← hk] at g0 hrow hl hfv ⊢
  have HFV := Lib.hid hfv
  have HR := Lib.hid hrow
  have HK := Lib.hid hk
  have HNB := Lib.hid (own_blk_ne hrow h.blk (by decide))
  have HBK := Lib.hid h.blk
  rw [← hk] at HBK
  clear h hA hap hnew hrow hk hc hfv
  unfold at0
  go_enter Try.func33, Try.ntmps33
  go_wp2_with (at_builtin; refine wpList_append_own_at _ rfl _ _ 26 rfl 0 23 i0 (.slice none 0 0) 1 24 Try.underlying26 hi hz0 hz1 hz2 rfl (by decide) _ k svs rfl (HR.out.alloc _) ⟨w.heap.size, 0, none⟩ 1 1 [.slice A x.length c] rfl rfl (cell_one_new _ _ _) (by simp [Value.oneCell']) (by unfold maxLen; omega) (by omega) (Nat.zero_le _) ?_; intro v' w2 hown' hg2 hnil hloc; obtain ⟨A2, c2, hv⟩ := own_slice hown'; rw [hv]; clear hnil; have HV := Lib.hid hv; clear hv; have HB2 := Lib.hid ((HBK.out.alloc (.cells #[.slice A x.length c] 23)).grown hg2 (fun e => HNB.out e.symm)); have z0 := HB2.out.frozen 0; have e0 := HB2.out.cell 0; simp at e0; have HOWN := Lib.hid hown'; have HG2 := Lib.hid hg2; have HLOC := Lib.hid hloc; clear hown' hg2 hloc)
  have h := HH.out
  have hg2 := HG2.out
  have hown := HOWN.out
  have hlt := h.lt
  have hsz : w.heap.size < w2.heap.size := Nat.lt_of_lt_of_le (by simp) hg2.size
  have hkp : Kept F w (w2.setCell ⟨b, 0, none⟩ (.slice A2 (k + 1) c2)) := ((((Kept.refl F w).alloc _).grown hg2 (fun g hg => .inl (HFV.out g hg)))).setCell (.inl h.fb) _
  have hcell : ∀ i, i < w.heap.size → i ≠ b → (Value.slice At k ct).ownBlock ≠ some i → (w2.setCell ⟨b, 0, none⟩ (.slice A2 (k + 1) c2)).heap[i]? = w.heap[i]? := fun i hi h1 h2 => by
    rw [heap_setCell_other _ _ _ h1, hg2.block i (by simp; omega) (fun e => h2 e.symm), Below.heap_alloc _ _ _ (by omega)]
  have hblk : Blk (w2.setCell ⟨b, 0, none⟩ (.slice A2 (k + 1) c2)) b 89 #[.slice A2 (k + 1) c2, mv, .map (some bt), .map (some bp)] := by
    have := HB2.out.set_ 0 (.slice A2 (k + 1) c2)
    simpa using this
  rw [HV.out] at hown
  have nbt : b ≠ bt := h.blk.ne_map h.tmap
  have ntt : (Value.slice At k ct).ownBlock ≠ some bt := own_map_ne HR.out h.tmap
  have hrow3 : (w2.setCell ⟨b, 0, none⟩ (.slice A2 (k + 1) c2)).ownsRow 0 23 1 (.slice A2 (k + 1) c2) (k + 1) (svs ++ [.slice A x.length c]) :=
    ownsRow_block hown fun g hg => heap_setCell_other _ _ _ fun e => own_blk_ne hown HB2.out (by decide) (by rw [hg, e])
  have hsz3 : (w2.setCell ⟨b, 0, none⟩ (.slice A2 (k + 1) c2)).heap.size = w2.heap.size := size_setCell' _ _ _
  obtain ⟨w3, hw3⟩ : ∃ w3, w3 = w2.setCell ⟨b, 0, none⟩ (.slice A2 (k + 1) c2) := ⟨_, rfl⟩
  rw [← hw3] at hkp hcell hblk hrow3 hsz3 ⊢
  have htm : tokAt w3 bt k DT := by rw [HK.out]; exact ownsMap_block h.tmap (hcell bt (hlt bt h.ft) nbt.symm ntt)
  have hA3 := HA.out.keptF hkp HAP.out
  have hx63 : x.length ≤ maxLen := HA.out.1
  have hkey := key_str hx63
  have hcv : (convert 23 9 (.slice A x.length c)).run Try.prog w3.drew = .ok (.string ⟨x.toArray⟩) w3.drew := str_of hA3.drew c
  have g2 := hblk.cell 2
  simp only [List.getElem?_toArray, List.getElem?_cons_zero, List.getElem?_cons_succ] at g2
  have HW3 := Lib.hid hw3
  have HKP := Lib.hid hkp
  have HCELL := Lib.hid hcell
  have HBLK := Lib.hid hblk
  have HROW3 := Lib.hid hrow3
  have HTM := Lib.hid htm
  have HNBT := Lib.hid nbt
  have HNTT := Lib.hid ntt
  have HLT := Lib.hid hlt
  have HSZ := Lib.hid hsz
  have HSZ3 := Lib.hid hsz3
  clear h hg2 hown hlt hsz hkp hcell hblk nbt ntt hrow3 hw3 htm hA3 hx63 z0 e0 g0 hsz3
  go_still_tail 7, (by kernel_rfl)
  change wpList _ _ _ _ _ w3.drew
  go_wp2_with (at_mapUpdate; refine wpList_mapUpdate_own _ rfl _ _ _ 86 rfl 9 3 strLaw Try.underlying86 (plainElem Try.prog 3) bt k DT rfl HTM.out.drew (by unfold maxLen; omega) _ _ (.string x) rfl rfl hkey (.lit (.int .i64 (k : Int))) [] (plainElem_int Try.underlying3 (WalkArith.wf_i64 (by omega))) ?_; intro w4 hown4 hgrow4; have HO4 := Lib.hid hown4; have HG4 := Lib.hid hgrow4; clear hown4 hgrow4)
  go_ret
  have h := HH.out
  have hsz4 : w3.heap.size ≤ w4.heap.size := HG4.out.size
  have hs3 := HSZ3.out
  have hs := HSZ.out
  have hb4 : ∀ i, i < w3.heap.size → i ≠ bt → w4.heap[i]? = w3.heap[i]? := fun i h1 h2 => HG4.out.block i h1 (by simpa using h2)
  have hkp4 : Kept F w w4 := HKP.out.drew.grown HG4.out (fun g hg => by cases hg; exact .inl h.ft)
  have hF : ∀ i, Own F w w4 i → F i ∨ w.heap.size ≤ i := fun i hi => hi.imp id (·.1)
  have hown3 : w3.ownsMap Try.prog 9 (plainElem Try.prog 3) bt k DT := HTM.out
  have hloc : ∀ g, (Value.slice A2 (k + 1) c2).ownBlock = some g → Own F w w4 g := fun g hg => by
    have hl := HLOC.out
    rw [HV.out] at hl
    rcases hl with hl | hl
    · exact .inl (HFV.out g (hl.symm.trans hg))
    · refine .inr ?_
      have hlt := (HROW3.out.lt g hg).2
      rw [hl] at hg
      simp at hg
      omega
  refine ⟨rfl, ⟨.slice A2 (k + 1) c2, mv, bt, bp, svs ++ [.slice A x.length c], DT.put (.string x) (.lit (.int .i64 (k : Int))), DP, ?_⟩, hkp4⟩
  have hlen : (V.tok ++ [x]).length = k + 1 := by rw [HK.out]; simp
  have hcl : svs.length = k := by have := HR.out.1; simpa using this
  have hold : ∀ i, i < w.heap.size → i ≠ b → (Value.slice At k ct).ownBlock ≠ some i → i ≠ bt → w4.heap[i]? = w.heap[i]? := fun i h0 h1 h2 h3 => (hb4 i (by omega) h3).trans (HCELL.out i h0 h1 h2)
  exact {
    blk := HBLK.out.same (hb4 b HBLK.out.lt HNBT.out)
    trow := by
      show w4.ownsRow 0 23 1 _ (V.tok ++ [x]).length _
      rw [hlen]
      exact ownsRow_block HROW3.out fun g hg => hb4 g (HROW3.out.lt g hg).2 fun e => own_map_ne HROW3.out hown3 (by rw [hg, e])
    toks := fun i sv y h1 h2 => by
      rcases Nat.lt_or_ge i k with hik | hik
      · rw [List.getElem?_append_left (by omega)] at h1
        have h2' : (V.tok ++ [x])[i]? = some y := h2
        rw [List.getElem?_append_left (by rw [← HK.out]; exact hik)] at h2'
        exact (h.toks i sv y h1 h2').mono hkp4 (fun _ hf => hf) hF
      · have h2' : (V.tok ++ [x])[i]? = some y := h2
        have hi' := (List.getElem?_eq_some_iff.1 h2').1
        obtain rfl : i = k := by omega
        rw [List.getElem?_append_right (by omega), hcl, Nat.sub_self] at h1
        rw [List.getElem?_append_right (by rw [← HK.out]; exact Nat.le_refl _), ← HK.out, Nat.sub_self] at h2'
        cases h1
        cases h2'
        exact TokIn.mono ⟨A, c, rfl, HC.out, HA.out, HAP.out⟩ hkp4 (fun _ hf => hf) hF
    mrow := ownsRow_block h.mrow fun g hg => by
      have hgl := h.lt g (h.fm g hg)
      exact hold g hgl (fun e => own_blk_ne h.mrow h.blk (by decide) (by rw [hg, e])) (fun e => own_row_ne HR.out h.mrow (by decide) g e hg) (fun e => own_map_ne h.mrow h.tmap (by rw [hg, e]))
    fits := h.fits
    tmap := by
      show tokAt w4 bt (V.tok ++ [x]).length _
      rw [hlen]
      exact HO4.out
    pmap := ownsMap_block h.pmap (hold bp (h.lt bp h.fp) (h.blk.ne_map h.pmap).symm (own_map_ne HR.out h.pmap) h.nob.symm)
    isT := by
      have := h.isT.put HNEW.out
      rw [← HK.out] at this
      exact this
    isP := h.isP
    nob := h.nob
    fb := .inl h.fb
    ft := .inl h.ft
    fp := .inl h.fp
    fv := hloc
    fm := fun g hg => .inl (h.fm g hg)
    lt := fun i hi => by
      rcases hi with hi | hi
      · have := h.lt i hi; omega
      · exact hi.2 }
end Go.Proofs.Ytimbimnbaoaboaa
