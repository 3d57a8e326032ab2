/- A growing vocabulary in memory. -/
import Derived.Test.YtimbimnbaoaboaaVMap
import Derived.Test.YtimbimnbaoaboaaVRef1
namespace Go.Proofs.Ytimbimnbaoaboaa
open Go.RowKit Go.Maps Go.WideMaps

/-- F, and what is new. -/
def Own (F : Nat → Prop) (w w' : World) (i : Nat) : Prop := F i ∨ (w.heap.size ≤ i ∧ i < w'.heap.size)
def mgCells (m : Mg) : List Value := [.int .i64 m.a, .int .i64 m.b, .int .i64 m.t]
def mgFits (m : Mg) : Prop := fits64 m.a ∧ fits64 m.b ∧ fits64 m.t
/-- A slice of a token's bytes, outside F. -/
def TokIn (w : World) (F : Nat → Prop) (sv : Value) (x : Nm) : Prop := ∃ A c, sv = .slice A x.length c ∧ x.length ≤ c ∧ BytesIn w A x.length x ∧ ∀ ad, A = some ad → 0 < x.length → ¬ F ad.block
structure IsGrow (w : World) (F : Nat → Prop) (b : Nat) (V : Voc) (tv mv : Value) (bt bp : Nat) (svs : List Value) (DT DP : DataW Unit) : Prop where
  blk : Blk w b 89 #[tv, mv, .map (some bt), .map (some bp)]
  trow : w.ownsRow 0 23 1 tv V.tok.length svs
  toks : ∀ (i : Nat) (sv : Value) (x : Nm), svs[i]? = some sv → V.tok[i]? = some x → TokIn w F sv x
  mrow : w.ownsRow 0 46 3 mv V.mer.length (V.mer.flatMap mgCells)
  fits : ∀ m ∈ V.mer, mgFits m
  tmap : tokAt w bt V.tok.length DT
  pmap : pairAt w bp V.mer.length DP
  isT : TokMap DT V.tok
  isP : PairMap DP V.mer
  nob : bt ≠ bp
  fb : F b
  ft : F bt
  fp : F bp
  fv : ∀ g, tv.ownBlock = some g → F g
  fm : ∀ g, mv.ownBlock = some g → F g
  lt : ∀ i, F i → i < w.heap.size
def Grow (w : World) (F : Nat → Prop) (b : Nat) (V : Voc) : Prop := ∃ tv mv bt bp svs DT DP, IsGrow w F b V tv mv bt bp svs DT DP
theorem TokIn.mono {w w' : World} {F F' : Nat → Prop} {sv : Value} {x : Nm} (h : TokIn w F sv x) {G : Nat → Prop} (hk : Kept G w w') (hG : ∀ i, G i → F i) (hF : ∀ i, F' i → F i ∨ w.heap.size ≤ i) : TokIn w' F' sv x := by
  obtain ⟨A, c, h1, h2, h3, h4⟩ := h
  refine ⟨A, c, h1, h2, ⟨h3.1, h3.2.1.keep fun ad e h0 => hk.block _ (h3.2.2 ad e h0) fun hf => h4 ad e h0 (hG _ hf), fun ad e h0 => Nat.lt_of_lt_of_le (h3.2.2 ad e h0) hk.size⟩, fun ad e h0 hf => ?_⟩
  rcases hF _ hf with h | h
  · exact h4 ad e h0 h
  · have := h3.2.2 ad e h0; omega
theorem Blk.same {w w' : World} {g : Nat} {t : TypeId} {cs : Array Value} (h : Blk w g t cs) (e : w'.heap[g]? = w.heap[g]?) : Blk w' g t cs := e.trans h
/-- What lies elsewhere may turn. -/
theorem IsGrow.kept {w w' : World} {F : Nat → Prop} {b : Nat} {V : Voc} {tv mv : Value} {bt bp : Nat} {svs : List Value} {DT DP : DataW Unit} (h : IsGrow w F b V tv mv bt bp svs DT DP) (hb : Below w.heap.size w w') : IsGrow w' F b V tv mv bt bp svs DT DP where
  blk := h.blk.same (hb.block _ (h.lt _ h.fb))
  trow := ownsRow_block h.trow fun g hg => hb.block g (h.lt g (h.fv g hg))
  toks := fun i sv x h1 h2 => (h.toks i sv x h1 h2).mono (G := fun _ => False) (Kept.below hb) (fun _ => False.elim) (fun _ hf => .inl hf)
  mrow := ownsRow_block h.mrow fun g hg => hb.block g (h.lt g (h.fm g hg))
  fits := h.fits
  tmap := ownsMap_block h.tmap (hb.block _ (h.lt _ h.ft))
  pmap := ownsMap_block h.pmap (hb.block _ (h.lt _ h.fp))
  isT := h.isT
  isP := h.isP
  nob := h.nob
  fb := h.fb
  ft := h.ft
  fp := h.fp
  fv := h.fv
  fm := h.fm
  lt := fun i hi => Nat.lt_of_lt_of_le (h.lt i hi) hb.size
theorem Grow.kept {w w' : World} {F : Nat → Prop} {b : Nat} {V : Voc} (h : Grow w F b V) (hb : Below w.heap.size w w') : Grow w' F b V := by
  obtain ⟨tv, mv, bt, bp, svs, DT, DP, h⟩ := h
  exact ⟨tv, mv, bt, bp, svs, DT, DP, h.kept hb⟩
theorem Grow.lt {w : World} {F : Nat → Prop} {b : Nat} {V : Voc} (h : Grow w F b V) : ∀ i, F i → i < w.heap.size := by
  obtain ⟨tv, mv, bt, bp, svs, DT, DP, h⟩ := h
  exact h.lt

set_option maxHeartbeats 2000000 in
set_option maxRecDepth 100000 in
theorem newGrowing_any (w : World) :
    Calls Try.prog 31 #[] w fun e w' => ∃ b, e = .returned (at0 b) ∧ Grow w' (fun i => w.heap.size ≤ i ∧ i < w'.heap.size) b ⟨[], []⟩ ∧ Below w.heap.size w w' := by
  have hmm := @run_makeMap Try.prog
  go_enter Try.func31, Try.ntmps31
  go_wp2
  go_ret
  have b1 : Below w.heap.size w (w.alloc (.map #[] 0)) := (Below.refl _ w).alloc (Nat.le_refl _) _
  have b2 : Below w.heap.size w ((w.alloc (.map #[] 0)).alloc (.map #[] 0)) := b1.alloc (by simp) _
  refine ⟨_, rfl, ⟨.slice none 0 0, .slice none 0 0, w.heap.size, w.heap.size + 1, [], .map [], .map [], ?_⟩, b2.alloc (by simp; omega) _⟩
  have m1 : tokAt (((w.alloc (.map #[] 0)).alloc (.map #[] 0)).alloc (.cells #[.slice none 0 0, .slice none 0 0, .map (some w.heap.size), .map (some (w.heap.size + 1))] 89)) w.heap.size 0 (.map []) :=
    ((World.ownsMap_made w _ _ _).alloc _).alloc _
  have m2 : pairAt (((w.alloc (.map #[] 0)).alloc (.map #[] 0)).alloc (.cells #[.slice none 0 0, .slice none 0 0, .map (some w.heap.size), .map (some (w.heap.size + 1))] 89)) (w.heap.size + 1) 0 (.map []) := by
    have h := (World.ownsMap_made (H := Unit) (w.alloc (.map #[] 0)) Try.prog 49 unitElem)
    simp only [World.size_alloc] at h
    exact h.alloc _
  exact {
    blk := by
      have h := Blk.new ((w.alloc (.map #[] 0)).alloc (.map #[] 0)) 89 #[.slice none 0 0, .slice none 0 0, .map (some w.heap.size), .map (some (w.heap.size + 1))]
      simpa using h
    trow := World.ownsRow_nil _ _ _ _
    toks := fun i sv x h1 _ => by simp at h1
    mrow := World.ownsRow_nil _ _ _ _
    fits := fun m h => by simp at h
    tmap := m1
    pmap := m2
    isT := TokMap.nil
    isP := PairMap.nil
    nob := by omega
    fb := by simp; omega
    ft := by simp; omega
    fp := by simp
    fv := fun g h => by simp [Value.ownBlock] at h
    fm := fun g h => by simp [Value.ownBlock] at h
    lt := fun i hi => hi.2 }

set_option maxHeartbeats 2000000 in
set_option maxRecDepth 100000 in
theorem isIndex_any (w : World) (F : Nat → Prop) (b : Nat) (V : Voc) (hG : Grow w F b V) (i : Int) :
    Calls Try.prog 56 #[at0 b, .int .i64 i] w fun e w' => e = .returned (.bool (decide (0 ≤ i ∧ i < V.tok.length))) ∧ w' = w := by
  obtain ⟨tv, mv, bt, bp, svs, DT, DP, h⟩ := hG
  obtain ⟨A, c, rfl⟩ := own_slice h.trow
  have e0 := h.blk.cell 0
  simp only [List.getElem?_toArray, List.getElem?_cons_zero] at e0
  obtain ⟨n, hn⟩ : ∃ n, n = V.tok.length := ⟨_, rfl⟩
  rw [← hn] at e0 ⊢
  clear h hn
  unfold at0
  by_cases h1 : i < 0
  · rw [decide_eq_false (by omega)]
    go_enter Try.func56, Try.ntmps56
    go_wp2
    go_ret
    exact ⟨rfl, rfl⟩
  · have h1' : 0 ≤ i := by omega
    by_cases h2 : i < (n : Int)
    · rw [decide_eq_true (by omega)]
      go_enter Try.func56, Try.ntmps56
      go_wp2
      go_ret
      exact ⟨rfl, rfl⟩
    · rw [decide_eq_false (by omega)]
      go_enter Try.func56, Try.ntmps56
      go_wp2
      go_ret
      exact ⟨rfl, rfl⟩

theorem pairCells : (Try.prog.info? 49).map (·.size) = some 2 := by kernel_rfl
set_option maxHeartbeats 2000000 in
set_option maxRecDepth 100000 in
theorem pairOf_any (w : World) (a b t : Int) :
    Calls Try.prog 45 #[.agg #[.int .i64 a, .int .i64 b, .int .i64 t]] w fun e w' => e = .returned (.agg #[.int .i64 a, .int .i64 b]) ∧ Below w.heap.size w w' := by
  go_enter Try.func45, Try.ntmps45
  go_wp2
  refine bodyPost_ret (results_cell_row rfl _ _ (w.heap.size + 1) 49 #[.int .i64 a, .int .i64 b] (0, 0) _ rfl ?_ Try.underlying49 rfl pairCells) rfl ⟨rfl, ?_⟩
  · have h := Blk.new (w.alloc (.cells #[.int .i64 a, .int .i64 b, .int .i64 t] 46)) 49 #[.int .i64 a, .int .i64 b]
    simpa [Blk] using h
  · exact ((Below.refl _ w).alloc (Nat.le_refl _) _).alloc (by simp) _

theorem tok_str {w : World} {F : Nat → Prop} {sv : Value} {x : Nm} (h : TokIn w F sv x) : ∃ A c, sv = .slice A x.length c ∧ BytesIn w A x.length x := by
  obtain ⟨A, c, h1, _, h3, _⟩ := h
  exact ⟨A, c, h1, h3⟩

set_option maxHeartbeats 2000000 in
set_option maxRecDepth 100000 in
theorem hasToken_any (w : World) (F : Nat → Prop) (b : Nat) (V : Voc) (hG : Grow w F b V) (A : Option Addr) (n c : Nat) (x : Nm) (hx : BytesIn w A n x) :
    Calls Try.prog 44 #[at0 b, .slice A n c] w fun e w' => e = .returned (.bool (decide (0 ≤ findT V.tok x))) ∧ Below w.heap.size w w' := by
  obtain ⟨tv, mv, bt, bp, svs, DT, DP, h⟩ := hG
  have hxn : x.length ≤ maxLen := by have := hx.2.1.len; have := hx.1; simp at *; omega
  have e2 : ∀ q, (w.drewN q).cell? ⟨b, 2, none⟩ = some (.map (some bt)) := fun q => by
    have := (h.blk.drewN q).cell 2
    simpa using this
  have hlk : ∀ q, (Instr.lookup 86 (.map (some bt)) (.string ⟨x.toArray⟩) true).run Try.prog (w.drewN q) = .ok (.tuple #[.int .i64 (atTok V.tok x), .bool (decide (0 ≤ findT V.tok x))]) (w.drewN q) := fun q => tok_look (w := w.drewN q) (ownsMap_block h.tmap rfl) h.isT x hxn
  have hcv : ∀ q, (convert 23 9 (.slice A n c)).run Try.prog (w.drewN q) = .ok (.string ⟨x.toArray⟩) (w.drewN q) := fun q => str_of (hx.drewN q) c
  obtain ⟨R, hR⟩ : ∃ R, R = decide (0 ≤ findT V.tok x) := ⟨_, rfl⟩
  rw [← hR]
  rw [← hR] at hlk
  obtain ⟨T, hT⟩ : ∃ T, T = atTok V.tok x := ⟨_, rfl⟩
  rw [← hT] at hlk
  clear h hx hR hT
  unfold at0
  go_enter Try.func44, Try.ntmps44
  go_wp2_with fail
  go_quiet (fail)
  go_wp2
  go_ret
  exact ⟨rfl, below_drewN (Below.refl _ _) _⟩

theorem isIndex_is (w : World) (F : Nat → Prop) (b : Nat) (V : Voc) (hG : Grow w F b V) (i : Int) {r : Bool} (hr : decide (0 ≤ i ∧ i < V.tok.length) = r) :
    Calls Try.prog 56 #[at0 b, .int .i64 i] w fun e w' => e = .returned (.bool r) ∧ w' = w := by
  have h := isIndex_any w F b V hG i
  rw [hr] at h
  exact h
set_option maxHeartbeats 4000000 in
set_option maxRecDepth 100000 in
theorem isFree_any (w : World) (F : Nat → Prop) (b : Nat) (V : Voc) (hG : Grow w F b V) (x y : Int) (hx : fits64 x) (hy : fits64 y) :
    Calls Try.prog 46 #[at0 b, .agg #[.int .i64 x, .int .i64 y]] w fun e w' => e = .returned (.bool (decide (0 ≤ x ∧ x < V.tok.length) && (decide (0 ≤ y ∧ y < V.tok.length) && !(mergedB V.mer x y)))) ∧ Below w.heap.size w w' := by
  have HG := Lib.hid hG
  obtain ⟨tv, mv, bt, bp, svs, DT, DP, h⟩ := hG
  have HB := Lib.hid h.blk
  have HP := Lib.hid h.pmap
  have HI := Lib.hid h.isP
  obtain ⟨R, hR⟩ : ∃ R, R = mergedB V.mer x y := ⟨_, rfl⟩
  rw [← hR]
  have hb1 : ∀ w', Below w.heap.size w w' → w'.cell? ⟨b, 3, none⟩ = some (.map (some bp)) := fun w' hb => by
    have := (HB.out.below hb HB.out.lt).cell 3
    simpa using this
  have hlk : ∀ w', Below w.heap.size w w' → (Instr.lookup 87 (.map (some bp)) (.agg #[.int .i64 x, .int .i64 y]) true).run Try.prog w' = .ok (.tuple #[.agg #[], .bool R]) w' := fun w' hb => by
    rw [hR]
    exact pair_look (ownsMap_block HP.out (hb.block _ HP.out.lt)) HI.out hx hy
  have HL := Lib.hid hlk
  have HC := Lib.hid hb1
  have b1 : Below w.heap.size w (w.alloc (.cells #[.int .i64 x, .int .i64 y] 49)) := (Below.refl _ w).alloc (Nat.le_refl _) _
  have b2 : Below w.heap.size w ((w.alloc (.cells #[.int .i64 x, .int .i64 y] 49)).alloc (.cells #[] 94)) := b1.alloc (by simp) _
  have B1 := Lib.hid b1
  have B2 := Lib.hid b2
  clear h hR hb1 hlk b1 b2
  have c1 := HC.out _ B1.out
  have c2 := HC.out _ B2.out
  have l1 := HL.out _ B1.out.drew
  have l2 := HL.out _ B2.out.drew
  unfold at0
  go_enter Try.func46, Try.ntmps46
  go_wp2
  go_region
  all_goals
    have GW := Lib.hid (HG.out.kept B2.out.drew)
    have BF := Lib.hid B2.out.drew
    clear HL HC B1 B2 HP HI HB HG c1 c2 l1 l2
    cases q1 : decide (0 ≤ x ∧ x < V.tok.length) with
    | false =>
      have Q1 := Lib.hid q1
      clear q1
      go_wp2_with fail
      refine (isIndex_is _ F b V GW.out x Q1.out).mono ?_
      rintro e w2 ⟨rfl, rfl⟩
      go_wp2
      go_ret
      exact ⟨by rw [Q1.out]; rfl, BF.out⟩
    | true =>
      have Q1 := Lib.hid q1
      clear q1
      go_wp2_with fail
      refine (isIndex_is _ F b V GW.out x Q1.out).mono ?_
      rintro e w2 ⟨rfl, rfl⟩
      cases q2 : decide (0 ≤ y ∧ y < V.tok.length) with
      | false =>
        have Q2 := Lib.hid q2
        clear q2
        go_wp2_with fail
        refine (isIndex_is _ F b V GW.out y Q2.out).mono ?_
        rintro e w2 ⟨rfl, rfl⟩
        go_wp2
        go_ret
        exact ⟨by rw [Q1.out, Q2.out]; rfl, BF.out⟩
      | true =>
        have Q2 := Lib.hid q2
        clear q2
        go_wp2_with fail
        refine (isIndex_is _ F b V GW.out y Q2.out).mono ?_
        rintro e w2 ⟨rfl, rfl⟩
        go_wp2
        go_ret
        exact ⟨by rw [Q1.out, Q2.out]; simp, BF.out⟩
end Go.Proofs.Ytimbimnbaoaboaa
