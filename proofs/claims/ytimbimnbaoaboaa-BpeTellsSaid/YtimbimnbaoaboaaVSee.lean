/- A grown vocabulary, to be read. -/
import Derived.Test.YtimbimnbaoaboaaVBMath
import Derived.Laws.ResultCell
namespace Go.Proofs.Ytimbimnbaoaboaa
open Go.RowKit Go.Maps Go.WideMaps
set_option linter.unusedSimpArgs false

theorem results_cell_row_tmp {P : Program} {fn : Func} {p u : Tmp} {ty : TypeId} (h : fn.results = #[.cell p ty, .tmp u]) (tmps : Array Value) (w : World) (g : Nat) (t : TypeId) (cs : Array Value) (fr : Nat × Nat) (d : TypeDesc)
    (hp : tmps.getD p undef = .pointer (some ⟨g, 0, none⟩)) (hg : w.heap[g]? = some (.cells cs t fr))
    (hu : P.underlying ty = some d) (hd : (match d with | .struct _ | .array _ _ => true | _ => false) = true) (hi : (P.info? ty).map (·.size) = some cs.size) :
    (results fn tmps).run P w = .ok (.tuple #[.agg cs, tmps.getD u undef]) w := by
  rw [results_cell_tmp h, hp]
  simp [asAddr, run_loadVar_row w g t ty cs fr d hg hu hd hi, Result.andThen]
theorem addr_add (g k : Nat) : (⟨g, 0, none⟩ : Addr).add k = ⟨g, k, none⟩ := by unfold Addr.add; split <;> simp_all
theorem vocabCells : (Try.prog.info? 29).map (·.size) = some 2 := by kernel_rfl
/-- A growing vocabulary, to be read. -/
theorem IsGrow.see {w : World} {F : Nat → Prop} {b : Nat} {V : Voc} {tv mv : Value} {bt bp : Nat} {svs : List Value} {DT DP : DataW Unit} (h : IsGrow w F b V tv mv bt bp svs DT DP) (hl : V.tok.length ≤ 1048576) (hm : V.mer.length ≤ 1048576) :
    ∃ A B ca cb, tv = .slice A V.tok.length ca ∧ mv = .slice B V.mer.length cb ∧ VocSee w A B V.tok.length V.mer.length ca cb V := by
  obtain ⟨A, ca, e1, c1⟩ := own_cap h.trow
  obtain ⟨B, cb, e2⟩ := own_slice h.mrow
  have hmr := h.mrow
  rw [e2] at hmr
  have c2 : V.mer.length ≤ cb := by
    rcases hmr.2 with ⟨h1, h0⟩ | ⟨g, cap, cur, h1, _, _, hc, _⟩
    · omega
    · injection h1 with _ _ h3
      omega
  refine ⟨A, B, ca, cb, e1, e2, ⟨⟨rfl, by unfold maxLen; omega, fun i x hx => ?_⟩, ⟨rfl, by unfold maxLen; omega, fun i m hi => ?_, fun m hmm => ?_⟩, c1, c2⟩⟩
  · obtain ⟨ad, n, c, A', k, e3, _, e4, hk, hA⟩ := h.tok hx
    rw [e1] at e3
    cases e3
    exact ⟨ad, A', k, rfl, e4, hk, hA⟩
  · have hil := (List.getElem?_eq_some_iff.1 hi).1
    have hlen : ∀ L : List Mg, (L.flatMap mgCells).length = L.length * 3 := fun L => by
      induction L with
      | nil => rfl
      | cons a r ih => rw [List.flatMap_cons, List.length_append, ih, List.length_cons]; simp [mgCells]; omega
    have hat : ∀ (L : List Mg) (i j : Nat) (m : Mg) (u : Value), L[i]? = some m → (mgCells m)[j]? = some u → (L.flatMap mgCells)[i * 3 + j]? = some u := fun L => by
      induction L with
      | nil => intro i j m u h1; simp at h1
      | cons a r ih =>
        intro i j m u h1 h2
        have hj : j < 3 := by have := (List.getElem?_eq_some_iff.1 h2).1; simpa [mgCells] using this
        rw [List.flatMap_cons]
        cases i with
        | zero =>
          simp at h1
          subst h1
          rw [List.getElem?_append_left (by simp [mgCells]; omega)]
          simpa using h2
        | succ i =>
          simp at h1
          rw [List.getElem?_append_right (by simp [mgCells]; omega)]
          have : (i + 1) * 3 + j - (mgCells a).length = i * 3 + j := by simp [mgCells]; omega
          rw [this]
          exact ih i j m u h1 h2
    cases B with
    | none =>
      rcases hmr.2 with ⟨h1, h0⟩ | ⟨g, cap, cur, h1, _⟩
      · omega
      · cases h1
    | some ad =>
      have hz : ad = ⟨ad.block, 0, none⟩ := by
        rcases hmr.2 with ⟨h1, _⟩ | ⟨g, cap, cur, h1, _⟩
        · cases h1
        · cases h1; rfl
      have hc := fun j u (hj : (mgCells m)[j]? = some u) => hmr.cells (g := ad.block) rfl (i * 3 + j) u (hat _ i j m u hi hj)
      have ea := addr_add ad.block
      refine ⟨ad, rfl, ?_, ?_, ?_⟩
      · have := hc 0 _ rfl
        rw [ea] at this
        rw [hz, ea]
        exact this
      · have := hc 1 _ rfl
        rw [ea] at this
        rw [hz, ea]
        exact this
      · have := hc 2 _ rfl
        rw [ea] at this
        rw [hz, ea]
        exact this
  · obtain ⟨h1, h2, h3⟩ := h.fits m hmm
    exact ⟨h1, h2, h3⟩

/-- Behind Build: a vocabulary that can be read, and the error. -/
def VocOut (w : World) (r : Voc × Int) (e : Ending) (w' : World) : Prop :=
  ∃ A B ca cb, e = .returned (.tuple #[vocV A B r.1.tok.length r.1.mer.length ca cb, .int .i64 r.2]) ∧ VocSee w' A B r.1.tok.length r.1.mer.length ca cb r.1 ∧ Below w.heap.size w w'
theorem VocSee.nil (w : World) : VocSee w none none 0 0 0 0 ⟨[], []⟩ where
  tok := ⟨rfl, by unfold maxLen; omega, fun i x h => by simp at h⟩
  mer := ⟨rfl, by unfold maxLen; omega, fun i x h => by simp at h, fun m h => by simp at h⟩
  capT := Nat.le_refl _
  capM := Nat.le_refl _

theorem IsGrow.far {w w' : World} {F : Nat → Prop} {b : Nat} {V : Voc} {tv mv : Value} {bt bp : Nat} {svs : List Value} {DT DP : DataW Unit} (h : IsGrow w F b V tv mv bt bp svs DT DP) {g : Nat} (hk : Kept (fun i => i = g) w w') (hg : ¬ F g)
    (ht : ∀ (A : Option Addr) (x : Nm), BytesIn w A x.length x → ∀ ad, A = some ad → 0 < x.length → ad.block ≠ g) : IsGrow w' F b V tv mv bt bp svs DT DP where
  blk := h.blk.kept hk (fun e => hg (e ▸ h.fb))
  trow := ownsRow_kept h.trow hk fun g' hg' e => hg (e ▸ h.fv g' hg')
  toks := fun i sv x h1 h2 => by
    obtain ⟨A, c, e1, e2, e3, e4⟩ := h.toks i sv x h1 h2
    exact ⟨A, c, e1, e2, e3.keptF hk (ht A x e3), e4⟩
  mrow := ownsRow_kept h.mrow hk fun g' hg' e => hg (e ▸ h.fm g' hg')
  fits := h.fits
  tmap := ownsMap_block h.tmap (hk.block _ (h.lt _ h.ft) (fun e => hg (e ▸ h.ft)))
  pmap := ownsMap_block h.pmap (hk.block _ (h.lt _ h.fp) (fun e => hg (e ▸ h.fp)))
  isT := h.isT
  isP := h.isP
  nob := h.nob
  fb := h.fb
  ft := h.ft
  fp := h.fp
  fv := h.fv
  fm := h.fm
  lt := fun i hi => Nat.lt_of_lt_of_le (h.lt i hi) hk.size
theorem not_bytes {w : World} {g : Nat} {t : TypeId} {cs : Array Value} (hb : Blk w g t cs) (hcs : ∀ (i : Nat) (c : UInt8), cs[i]? ≠ some (byteV c)) (A : Option Addr) (x : Nm) (hx : BytesIn w A x.length x) : ∀ ad, A = some ad → 0 < x.length → ad.block ≠ g := fun ad e h0 hg => by
  subst e
  obtain ⟨_, c, e1, _, hc⟩ := hx.at 0 h0
  cases e1
  have : w.cell? ad = some (byteV c) := by simpa [Addr.add, byteV] using hc
  have h2 : w.cell? ad = cs[ad.off]? := by
    have hb' : w.heap[ad.block]? = some (.cells cs t (0, 0)) := by rw [hg]; exact hb
    unfold World.cell?
    rw [hb']
    by_cases hs : ad.spot.isSome = true
    · unfold World.cell? at this
      rw [hb'] at this
      simp [hs] at this
    · simp [hs]
  rw [h2] at this
  exact hcs _ _ this
theorem ones_take {j : Nat} (h : j < 256) : ones.take (j + 1) = ones.take j ++ [[UInt8.ofNat j]] := by
  rw [List.take_add_one, ones_at h]; rfl
theorem ones_new {j : Nat} (h : j < 256) : findT (ones.take j) [UInt8.ofNat j] < 0 := by
  rw [findT_none]
  · omega
  · intro x hx
    obtain ⟨i, hi, rfl⟩ := List.mem_iff_getElem.1 hx
    rw [List.length_take, ones_len] at hi
    have h1 : (ones.take j)[i]? = some [UInt8.ofNat i] := by rw [List.getElem?_take, if_pos (by omega)]; exact ones_at (by omega)
    rw [List.getElem?_eq_getElem (by rw [List.length_take, ones_len]; omega)] at h1
    rw [Option.some.inj h1]
    exact fun e => by have := single_inj (by omega) h e; omega

end Go.Proofs.Ytimbimnbaoaboaa
