/- The program's Build. -/
import Derived.Test.YtecpihghlelefaaVBMath
import Derived.Laws.ResultCell
namespace Go.Proofs.Ytecpihghlelefaa
open Go.RowKit Go.Maps Go.WideMaps
set_option linter.unusedSimpArgs false

theorem results_cell_row_tmp {P : Program} {fn : Func} {p u : Tmp} {ty : TypeId} (h : fn.results = #[.cell p ty, .tmp u]) (tmps : Array Value) (w : World) (g : Nat) (t : TypeId) (cs : Array Value) (fr : Nat × Nat) (d : TypeDesc)
    (hp : tmps.getD p undef = .pointer (some ⟨g, 0, none⟩)) (hg : w.heap[g]? = some (.cells cs t fr))
    (hu : P.underlying ty = some d) (hd : (match d with | .struct _ | .array _ _ => true | _ => false) = true) (hi : (P.info? ty).map (·.size) = some cs.size) :
    (results fn tmps).run P w = .ok (.tuple #[.agg cs, tmps.getD u undef]) w := by
  rw [results_cell_tmp h, hp]
  simp [asAddr, run_loadVar_row w g t ty cs fr d hg hu hd hi, Result.andThen]
theorem addr_add (g k : Nat) : (⟨g, 0, none⟩ : Addr).add k = ⟨g, k, none⟩ := by unfold Addr.add; split <;> simp_all
theorem vocabCells : (Try.prog.info? 33).map (·.size) = some 2 := by kernel_rfl
/-- A growing vocabulary, to be read. -/
theorem IsGrow.see {w : World} {F : Nat → Prop} {b : Nat} {V : Voc} {tv mv : Value} {bt bp : Nat} {svs : List Value} {DT DP : DataW Unit} (h : IsGrow w F b V tv mv bt bp svs DT DP) (hl : V.tok.length ≤ 1048576) (hm : V.mer.length ≤ 1048576) :
    ∃ A B ca cb, tv = .slice A V.tok.length ca ∧ mv = .slice B V.mer.length cb ∧ VocSee w A B V.tok.length V.mer.length ca cb V := by
  obtain ⟨A, ca, e1, c1⟩ := own_cap h.trow
  obtain ⟨B, cb, e2⟩ := own_slice h.mrow
  have hmr := h.mrow
  rw [e2] at hmr
  have c2 : V.mer.length ≤ cb := by
    rcases hmr.2 with ⟨h1, h0⟩ | ⟨g, cap, cur, h1, _, _, hc, _⟩
    · omega
    · injection h1 with _ _ h3
      omega
  refine ⟨A, B, ca, cb, e1, e2, ⟨⟨rfl, by unfold maxLen; omega, fun i x hx => ?_⟩, ⟨rfl, by unfold maxLen; omega, fun i m hi => ?_, fun m hmm => ?_⟩, c1, c2⟩⟩
  · obtain ⟨ad, n, c, A', k, e3, _, e4, hk, hA⟩ := h.tok hx
    rw [e1] at e3
    cases e3
    exact ⟨ad, A', k, rfl, e4, hk, hA⟩
  · have hil := (List.getElem?_eq_some_iff.1 hi).1
    have hlen : ∀ L : List Mg, (L.flatMap mgCells).length = L.length * 3 := fun L => by
      induction L with
      | nil => rfl
      | cons a r ih => rw [List.flatMap_cons, List.length_append, ih, List.length_cons]; simp [mgCells]; omega
    have hat : ∀ (L : List Mg) (i j : Nat) (m : Mg) (u : Value), L[i]? = some m → (mgCells m)[j]? = some u → (L.flatMap mgCells)[i * 3 + j]? = some u := fun L => by
      induction L with
      | nil => intro i j m u h1; simp at h1
      | cons a r ih =>
        intro i j m u h1 h2
        have hj : j < 3 := by have := (List.getElem?_eq_some_iff.1 h2).1; simpa [mgCells] using this
        rw [List.flatMap_cons]
        cases i with
        | zero =>
          simp at h1
          subst h1
          rw [List.getElem?_append_left (by simp [mgCells]; omega)]
          simpa using h2
        | succ i =>
          simp at h1
          rw [List.getElem?_append_right (by simp [mgCells]; omega)]
          have : (i + 1) * 3 + j - (mgCells a).length = i * 3 + j := by simp [mgCells]; omega
          rw [this]
          exact ih i j m u h1 h2
    cases B with
    | none =>
      rcases hmr.2 with ⟨h1, h0⟩ | ⟨g, cap, cur, h1, _⟩
      · omega
      · cases h1
    | some ad =>
      have hz : ad = ⟨ad.block, 0, none⟩ := by
        rcases hmr.2 with ⟨h1, _⟩ | ⟨g, cap, cur, h1, _⟩
        · cases h1
        · cases h1; rfl
      have hc := fun j u (hj : (mgCells m)[j]? = some u) => hmr.cells (g := ad.block) rfl (i * 3 + j) u (hat _ i j m u hi hj)
      have ea := addr_add ad.block
      refine ⟨ad, rfl, ?_, ?_, ?_⟩
      · have := hc 0 _ rfl
        rw [ea] at this
        rw [hz, ea]
        exact this
      · have := hc 1 _ rfl
        rw [ea] at this
        rw [hz, ea]
        exact this
      · have := hc 2 _ rfl
        rw [ea] at this
        rw [hz, ea]
        exact this
  · obtain ⟨h1, h2, h3⟩ := h.fits m hmm
    exact ⟨h1, h2, h3⟩

/-- Behind Build: a vocabulary that can be read, and the error. -/
def VocOut (w : World) (r : Voc × Int) (e : Ending) (w' : World) : Prop :=
  ∃ A B ca cb, e = .returned (.tuple #[vocV A B r.1.tok.length r.1.mer.length ca cb, .int .i64 r.2]) ∧ VocSee w' A B r.1.tok.length r.1.mer.length ca cb r.1 ∧ Below w.heap.size w w'
theorem VocSee.nil (w : World) : VocSee w none none 0 0 0 0 ⟨[], []⟩ where
  tok := ⟨rfl, by unfold maxLen; omega, fun i x h => by simp at h⟩
  mer := ⟨rfl, by unfold maxLen; omega, fun i x h => by simp at h, fun m h => by simp at h⟩
  capT := Nat.le_refl _
  capM := Nat.le_refl _

theorem IsGrow.far {w w' : World} {F : Nat → Prop} {b : Nat} {V : Voc} {tv mv : Value} {bt bp : Nat} {svs : List Value} {DT DP : DataW Unit} (h : IsGrow w F b V tv mv bt bp svs DT DP) {g : Nat} (hk : Kept (fun i => i = g) w w') (hg : ¬ F g)
    (ht : ∀ (A : Option Addr) (x : Nm), BytesIn w A x.length x → ∀ ad, A = some ad → 0 < x.length → ad.block ≠ g) : IsGrow w' F b V tv mv bt bp svs DT DP where
  blk := h.blk.kept hk (fun e => hg (e ▸ h.fb))
  trow := ownsRow_kept h.trow hk fun g' hg' e => hg (e ▸ h.fv g' hg')
  toks := fun i sv x h1 h2 => by
    obtain ⟨A, c, e1, e2, e3, e4⟩ := h.toks i sv x h1 h2
    exact ⟨A, c, e1, e2, e3.keptF hk (ht A x e3), e4⟩
  mrow := ownsRow_kept h.mrow hk fun g' hg' e => hg (e ▸ h.fm g' hg')
  fits := h.fits
  tmap := ownsMap_block h.tmap (hk.block _ (h.lt _ h.ft) (fun e => hg (e ▸ h.ft)))
  pmap := ownsMap_block h.pmap (hk.block _ (h.lt _ h.fp) (fun e => hg (e ▸ h.fp)))
  isT := h.isT
  isP := h.isP
  nob := h.nob
  fb := h.fb
  ft := h.ft
  fp := h.fp
  fv := h.fv
  fm := h.fm
  lt := fun i hi => Nat.lt_of_lt_of_le (h.lt i hi) hk.size
theorem not_bytes {w : World} {g : Nat} {t : TypeId} {cs : Array Value} (hb : Blk w g t cs) (hcs : ∀ (i : Nat) (c : UInt8), cs[i]? ≠ some (byteV c)) (A : Option Addr) (x : Nm) (hx : BytesIn w A x.length x) : ∀ ad, A = some ad → 0 < x.length → ad.block ≠ g := fun ad e h0 hg => by
  subst e
  obtain ⟨_, c, e1, _, hc⟩ := hx.at 0 h0
  cases e1
  have : w.cell? ad = some (byteV c) := by simpa [Addr.add, byteV] using hc
  have h2 : w.cell? ad = cs[ad.off]? := by
    have hb' : w.heap[ad.block]? = some (.cells cs t (0, 0)) := by rw [hg]; exact hb
    unfold World.cell?
    rw [hb']
    by_cases hs : ad.spot.isSome = true
    · unfold World.cell? at this
      rw [hb'] at this
      simp [hs] at this
    · simp [hs]
  rw [h2] at this
  exact hcs _ _ this
theorem ones_take {j : Nat} (h : j < 256) : ones.take (j + 1) = ones.take j ++ [[UInt8.ofNat j]] := by
  rw [List.take_add_one, ones_at h]; rfl
theorem ones_new {j : Nat} (h : j < 256) : findT (ones.take j) [UInt8.ofNat j] < 0 := by
  rw [findT_none]
  · omega
  · intro x hx
    obtain ⟨i, hi, rfl⟩ := List.mem_iff_getElem.1 hx
    rw [List.length_take, ones_len] at hi
    have h1 : (ones.take j)[i]? = some [UInt8.ofNat i] := by rw [List.getElem?_take, if_pos (by omega)]; exact ones_at (by omega)
    rw [List.getElem?_eq_getElem (by rw [List.length_take, ones_len]; omega)] at h1
    rw [Option.some.inj h1]
    exact fun e => by have := single_inj (by omega) h e; omega

set_option maxHeartbeats 8000000 in
set_option maxRecDepth 100000 in
theorem vBuild_any (w : World) (A : Option Addr) (n c : Nat) (l : List (Int × Int)) (hl : PairsIn w A n l) :
    Calls Try.prog 10 #[.slice A n c] w (VocOut w (buildAll l)) := by
  obtain ⟨R, hR⟩ : ∃ R, R = buildAll l := ⟨_, rfl⟩
  rw [← hR]
  have HR := Lib.hid hR
  have HL := Lib.hid hl
  have hn63 : n ≤ 9223372036854775807 := hl.fit
  clear hl hR
  have hbz : Below w.heap.size w (w.alloc (.cells #[.slice none 0 0, .slice none 0 0] 33)) := (Below.refl _ w).alloc (Nat.le_refl _) _
  obtain ⟨W1, hW1⟩ : ∃ W1, W1 = w.alloc (.cells #[.slice none 0 0, .slice none 0 0] 33) := ⟨_, rfl⟩
  have hv0 : Blk W1 w.heap.size 33 #[.slice none 0 0, .slice none 0 0] := by rw [hW1]; exact Blk.new _ _ _
  rw [← hW1] at hbz
  have hs1 : W1.heap.size = w.heap.size + 1 := by rw [hW1]; simp
  have HW := Lib.hid hW1
  have HB1 := Lib.hid hbz
  have HV0 := Lib.hid hv0
  have HS1 := Lib.hid hs1
  clear hbz hW1 hv0 hs1
  go_enter Try.func10, Try.ntmps10
  go_wp2_with fail
  rw [← HW.out]
  refine (newGrowing_any W1).mono ?_
  rintro e w2 ⟨b, rfl, hg2, hb2⟩
  have HG2 := Lib.hid hg2
  have HB2 := Lib.hid hb2
  clear hg2 hb2
  unfold at0
  go_wp2_with fail
  go_loopw [10] (fun i wr => ∃ (j : Nat) (F : Nat → Prop), j ≤ 256 ∧ i = .int .i64 j ∧ Grow wr F b ⟨ones.take j, []⟩ ∧ (∀ i, F i → W1.heap.size ≤ i) ∧ Below W1.heap.size W1 wr) (fun i _ => 256 - (intOf i).toNat)
  case atStart => exact ⟨0, _, by omega, rfl, HG2.out, fun i hi => hi.1, HB2.out⟩
  case round =>
    obtain ⟨j, F, hj, rfl, hG, hF, hB⟩ := hrel
    have HG := Lib.hid hG
    have HF := Lib.hid hF
    have HB := Lib.hid hB
    clear hG hF hB
    rcases Nat.lt_or_ge j 256 with hlt | hge
    · have hlt' : (j : Int) < 256 := by omega
      have htk := ones_take hlt
      have hnw := ones_new hlt
      obtain ⟨x, rfl⟩ : ∃ x : UInt8, j = x.toNat := ⟨UInt8.ofNat j, by rw [UInt8.toNat_ofNat_of_lt' (by show _ < 256; omega)]⟩
      have hxx : UInt8.ofNat x.toNat = x := by simp
      rw [hxx] at htk hnw
      have hin := const_in wr [x] (0, 0) (by unfold maxLen; simp)
      have hb1 := HB.out.alloc HB.out.size (.cells #[.int .u8 x.toNat] 5)
      have HB1' := Lib.hid hb1
      have hg1 := HG.out.kept ((Below.refl _ wr).alloc (Nat.le_refl _) (.cells #[.int .u8 x.toNat] 5))
      have hti : TokIn (wr.alloc (.cells #[.int .u8 x.toNat] 5)) F (.slice (some ⟨wr.heap.size, 0, none⟩) 1 1) [x] := ⟨_, 1, rfl, Nat.le_refl _, hin, fun ad e _ hf => by
        cases e
        have := HG.out.lt _ hf
        exact absurd this (by simp)⟩
      have HG1 := Lib.hid hg1
      have HTI := Lib.hid hti
      have HTK := Lib.hid htk
      have HNW := Lib.hid hnw
      clear hin hb1 hxx hti hg1 htk hnw
      go_wp2_with fail
      refine (addToken_any _ F b ⟨ones.take x.toNat, []⟩ HG1.out (some ⟨wr.heap.size, 0, none⟩) 1 1 [x] HTI.out HNW.out (by show (ones.take _).length < _; rw [List.length_take, ones_len]; omega)).mono ?_
      rintro e w3 ⟨rfl, hg3, hk3⟩
      have HG3 := Lib.hid hg3
      have HB3 := Lib.hid (HB1'.out.trans (hk3.toBelow HB1'.out.size HF.out))
      clear hg3 hk3
      go_wp2
      go_roundw
      case rel =>
        refine ⟨x.toNat + 1, _, by omega, by go_num, by rw [HTK.out]; exact HG3.out, fun i hi => ?_, HB3.out⟩
        rcases hi with hi | hi
        · exact HF.out i hi
        · have := HB1'.out.size
          omega
      case measure => simp [intOf]; omega
    · obtain rfl : j = 256 := by omega
      have hjz : ¬ (((256 : Nat) : Int) < 256) := by omega
      have h256 : ones.take 256 = ones := List.take_of_length_le (by rw [ones_len]; omega)
      have HG' := Lib.hid (h256 ▸ HG.out)
      clear HG h256
      go_wp2_with fail
      go_loopw [21] (fun i wr => ∃ (k : Nat) (F : Nat → Prop) (V : Voc), k ≤ n ∧ i = .int .i64 k ∧ VOk V ∧ buildV V (l.drop k) = R ∧ Grow wr F b V ∧ (∀ i, F i → W1.heap.size ≤ i) ∧ Below W1.heap.size W1 wr) (fun i _ => n - (intOf i).toNat)
      case atStart => exact ⟨0, F, ⟨ones, []⟩, Nat.zero_le _, rfl, ones_ok, by rw [HR.out]; rfl, HG'.out, HF.out, HB.out⟩
      case round =>
        clear HG' HF HB F
        obtain ⟨k, F, V, hk, rfl, hV, hrest, hG, hF, hB⟩ := hrel
        have HV := Lib.hid hV
        have HRE := Lib.hid hrest
        have HG := Lib.hid hG
        have HF := Lib.hid hF
        have HB := Lib.hid hB
        have HBW := Lib.hid (below_then HB1.out hB HB1.out.size)
        clear hV hrest hG hF hB
        rcases Nat.lt_or_ge k n with hlt | hge
        · have hlt' : (k : Int) < (n : Int) := by omega
          obtain ⟨ad, p, rfl, hp, c0, c1, f0, f1⟩ := (HL.out.below HBW.out).at k hlt
          obtain ⟨x, y⟩ := p
          simp only at c0 c1 f0 f1
          have hdr : l.drop k = (x, y) :: l.drop (k + 1) := by
            have hkl := (List.getElem?_eq_some_iff.1 hp).1
            rw [List.drop_eq_getElem_cons hkl]
            rw [List.getElem?_eq_getElem hkl] at hp
            rw [Option.some.inj hp]
          have hre := HRE.out
          rw [hdr] at hre
          simp only [buildV] at hre
          have HRE2 := Lib.hid hre
          have hb1 := HB.out.alloc HB.out.size (.cells #[.int .i64 x, .int .i64 y] 45)
          have hg1 := HG.out.kept ((Below.refl _ wr).alloc (Nat.le_refl _) (.cells #[.int .i64 x, .int .i64 y] 45))
          have HB1' := Lib.hid hb1
          have HG1 := Lib.hid hg1
          clear hdr hre hp hb1 hg1
          go_wp2_with fail
          refine (addPair_any _ F b V HG1.out HV.out.short HV.out.tl HV.out.ml x y f0 f1).mono ?_
          rintro e w3 ⟨rfl, hk3, hg3⟩
          have HB3 := Lib.hid (HB1'.out.trans (hk3.toBelow HB1'.out.size HF.out))
          have HG3 := Lib.hid hg3
          clear hg3 hk3 c0 c1
          by_cases he : pairErr V x y = 0
          · have hre := HRE2.out
            rw [if_neg (by simpa using he)] at hre
            obtain ⟨F3, hg3, hF3⟩ := HG3.out he
            have HRE3 := Lib.hid hre
            have HF3 := Lib.hid hF3
            have HG3' := Lib.hid hg3
            have HADD := Lib.hid (HV.out.add he)
            have d1 : (pairErr V x y != 0) = false := by rw [he]; rfl
            clear hre hg3 hF3 HG3 he
            go_wp2
            go_roundw
            case rel =>
              refine ⟨k + 1, F3, _, by omega, by go_num, HADD.out, HRE3.out, HG3'.out, fun i hi => ?_, HB3.out⟩
              rcases HF3.out i hi with hi | hi
              · exact HF.out i hi
              · have := HB1'.out.size
                omega
            case measure => simp [intOf]; omega
          · have hre := HRE2.out
            rw [if_pos (by simpa using he)] at hre
            have HRE3 := Lib.hid hre
            have d1 : (pairErr V x y != 0) = true := by simpa using he
            have hv3 := HV0.out.below HB3.out (by have := HS1.out; omega)
            have z0 := hv3.frozen 0
            have z1 := hv3.frozen 1
            have y0 := hv3.cell 0
            have y1 := hv3.cell 1
            simp only [List.getElem?_toArray, List.getElem?_cons_zero, List.getElem?_cons_succ] at y0 y1
            clear hre he
            go_wp2
            refine bodyPost_ret (results_cell_row_tmp rfl _ _ w.heap.size 33 #[.slice none 0 0, .slice none 0 0] (0, 0) _ rfl ?_ Try.underlying33 rfl vocabCells) rfl ?_
            · have := (hv3.set_ 0 (.slice none 0 0)).set_ 1 (.slice none 0 0)
              simpa [Blk] using this
            · unfold VocOut
              rw [← HRE3.out]
              exact ⟨none, none, 0, 0, rfl, VocSee.nil _, ((HB1.out.trans (HB3.out.mono (by have := HS1.out; omega))).setCell (Nat.le_refl _) _).setCell (Nat.le_refl _) _⟩
        · obtain rfl : k = n := by omega
          have hkz : ¬ ((k : Int) < (k : Int)) := by omega
          have hre := HRE.out
          rw [List.drop_of_length_le (by rw [HL.out.len]; exact Nat.le_refl _)] at hre
          have HRE3 := Lib.hid hre
          have hv3 := HV0.out.below HB.out (by have := HS1.out; omega)
          have z0 := hv3.frozen 0
          have z1 := hv3.frozen 1
          have y0 := hv3.cell 0
          have y1 := hv3.cell 1
          obtain ⟨tv, mv, bt, bp, svs, DT, DP, h⟩ := HG.out
          obtain ⟨A', B', ca, cb, rfl, rfl, -⟩ := h.see (by have := HV.out.tl; omega) (by have := HV.out.ml; omega)
          have e0 := h.blk.cell 0
          have e1 := h.blk.cell 1
          simp only [List.getElem?_toArray, List.getElem?_cons_zero, List.getElem?_cons_succ] at y0 y1 e0 e1
          have HH := Lib.hid h
          clear hre h
          go_wp2
          have h := HH.out
          have hv3 := HV0.out.below HB.out (by have := HS1.out; omega)
          have hnF : ¬ F w.heap.size := fun hf => by have := HF.out _ hf; have := HS1.out; omega
          have hk1 : Kept (fun i => i = w.heap.size) wr (wr.setCell ⟨w.heap.size, 0, none⟩ (.slice A' V.tok.length ca)) := (Kept.refl (fun i => i = w.heap.size) wr).setCell (p := ⟨w.heap.size, 0, none⟩) (.inl rfl) _
          have hk2 : Kept (fun i => i = w.heap.size) wr ((wr.setCell ⟨w.heap.size, 0, none⟩ (.slice A' V.tok.length ca)).setCell ⟨w.heap.size, 1, none⟩ (.slice B' V.mer.length cb)) := hk1.setCell (p := ⟨w.heap.size, 1, none⟩) (.inl rfl) _
          have h4 := h.far hk2 hnF (fun A0 x hx => not_bytes hv3 (fun i c => by
            match i with
            | 0 => simp [byteV]
            | 1 => simp [byteV]
            | i + 2 => simp) A0 x hx)
          obtain ⟨A5, B5, ca5, cb5, e5, e6, hsee⟩ := h4.see (by have := HV.out.tl; omega) (by have := HV.out.ml; omega)
          cases e5
          cases e6
          refine bodyPost_ret (results_cell_row_tmp rfl _ _ w.heap.size 33 #[.slice A' V.tok.length ca, .slice B' V.mer.length cb] (0, 0) _ rfl ?_ Try.underlying33 rfl vocabCells) rfl ?_
          · have := (hv3.set_ 0 (.slice A' V.tok.length ca)).set_ 1 (.slice B' V.mer.length cb)
            simpa [Blk] using this
          · unfold VocOut
            rw [← HRE3.out]
            exact ⟨A', B', ca, cb, rfl, hsee, (HBW.out.setCell (Nat.le_refl _) _).setCell (Nat.le_refl _) _⟩
end Go.Proofs.Ytecpihghlelefaa
