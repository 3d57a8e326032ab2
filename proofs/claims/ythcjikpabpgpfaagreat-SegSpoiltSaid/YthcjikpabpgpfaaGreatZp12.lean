import Derived.Test.YthcjikpabpgpfaaGreatZp0
import Derived.Test.YthcjikpabpgpfaaGreatZp3
import Derived.Test.YthcjikpabpgpfaaGreatZp5
import Derived.DeepKeys4
import Derived.MapViews
import Derived.Maps.OwnSet
import Derived.Lib.AppendZerosOnto
import Derived.StillTailTactics
import Derived.Deep.RegionHeld3
import Derived.Test.YthcjikpabpgpfaaGreatZp6
set_option linter.unusedSimpArgs false
set_option maxHeartbeats 16000000
set_option maxRecDepth 100000
namespace Go.Proofs.YthcjikpabpgpfaaGreat
open Go.RowKit Go.Maps Go.WideMaps
theorem strLaw : Keyed Tryz.prog 9 := string_keyed Tryz.underlying9
theorem rowPair : (73 : TypeId) < Tryz.prog.types.size := of_decide_eq_true (by kernel_rfl)
theorem widePair : (match Tryz.prog.underlying 73 with | some (.array _ _) | some (.struct _) => true | _ => false) = true := by kernel_rfl
theorem pairKeyLaw : KeyLaw Tryz.prog 73 := deep_law_laid laidOut (m := 3) (by omega) rowPair (by kernel_rfl) widePair
theorem pairLaw : Keyed Tryz.prog 73 := Keyed.of_law pairKeyLaw
def pk (a b : Int) : Lit := .string (keyBytes [.int .i64 a, .int .i64 b])
theorem keyOf_pairs {a b : Int} (ha : fits64 a) (hb : fits64 b) : keyOf Tryz.prog 73 (.agg #[.int .i64 a, .int .i64 b]) = some (pk a b) := by
 have wa : (Lit.int .i64 a).wf = true := WalkArith.wf_i64 ha
 have wb : (Lit.int .i64 b).wf = true := WalkArith.wf_i64 hb
 have hu := Tryz.underlying73
 have hk : Tryz.prog.keyType 73 = true := by kernel_rfl
 have hc : Tryz.prog.cellsOf 73 = 2 := by kernel_rfl
 have hi : Tryz.prog.cellsOf 3 = 1 := by kernel_rfl
 have hsz : ∃ m, Tryz.prog.types.size = m + 1 := ⟨_, (Nat.sub_add_cancel (Nat.lt_of_le_of_lt (Nat.zero_le _) rowPair)).symm⟩
 obtain ⟨m, hm⟩ := hsz
 unfold keyOf
 simp only [hu]
 rw [if_pos (by simp [hk, Value.formed, hu, hc]), hm]
 unfold Program.keyLits
 simp only [hu, Value.cells]
 rw [if_pos ⟨by rw [hc]; rfl, by simp⟩]
 simp [hi, Program.keyLits, Tryz.underlying3, wa, wb, pk]
theorem pk_inj {a b a' b' : Int} (ha : fits64 a) (hb : fits64 b) (ha' : fits64 a') (hb' : fits64 b') (h : pk a b = pk a' b') : a = a' ∧ b = b' := by
 have e := pairKeyLaw.inj (keyOf_pairs ha hb) (by rw [h]; exact keyOf_pairs ha' hb')
 simpa using e
theorem unitZero (w : World) : (zeroValue 150).run Tryz.prog w = .ok (.agg #[]) w := by kernel_rfl
theorem intZero (w : World) : (zeroValue 3).run Tryz.prog w = .ok (.int .i64 0) w := by kernel_rfl
def atTok (L : List Nm) (s : Nm) : Int := if 0 ≤ findT L s then findT L s else 0
structure TokMap (D : DataW Unit) (L : List Nm) : Prop where
 isMap : IsMap D
 has : ∀ s : Nm, Maps.has D (.string s) = decide (0 ≤ findT L s)
 at_ : ∀ s : Nm, D.atKey (.string s) (.lit (.int .i64 0)) = .lit (.int .i64 (atTok L s))
structure PairMap (D : DataW Unit) (M : List Mg) : Prop where
 isMap : IsMap D
 has : ∀ a b, fits64 a → fits64 b → Maps.has D (pk a b) = mergedB M a b
theorem TokMap.nil : TokMap (.map []) [] := ⟨isMap_empty, fun _ => rfl, fun _ => rfl⟩
theorem PairMap.nil : PairMap (.map []) [] := ⟨isMap_empty, fun _ _ _ _ => rfl⟩
theorem findT_snoc {L : List Nm} {x : Nm} (h : findT L x < 0) (s : Nm) : findT (L ++ [x]) s = if s = x then (L.length : Int) else findT L s := by
 split
 ·rename_i e
  subst e
  rcases findT_cases L s with ⟨_, hn⟩ | ⟨i, hi, _⟩
  ·exact findT_at (by simp) fun j y hj hy => by
    rw [List.getElem?_append_left hj] at hy
    exact hn y (List.mem_of_getElem? hy)
  ·omega
 ·rename_i e
  rcases findT_cases L s with ⟨h1, hn⟩ | ⟨i, hi, hx, hn⟩
  ·rw [h1]
   exact findT_none fun y hy => by
    rcases List.mem_append.1 hy with hy | hy
    ·exact hn y hy
    ·rw [List.mem_singleton.1 hy]; exact fun e2 => e e2.symm
  ·have hlt := (List.getElem?_eq_some_iff.1 hx).1
   rw [hi]
   exact findT_at (by rw [List.getElem?_append_left hlt]; exact hx) fun j y hj hy => by
    rw [List.getElem?_append_left (by omega)] at hy
    exact hn j y hj hy
theorem isKeyStr (s : Nm) : WideAt.IsKeyLit (.string s) := trivial
theorem TokMap.put {D : DataW Unit} {L : List Nm} (h : TokMap D L) {x : Nm} (hx : findT L x < 0) : TokMap (D.put (.string x) (.lit (.int .i64 (L.length : Nat)))) (L ++ [x]) := by
 refine ⟨h.isMap.put _ _, fun s => ?_, fun s => ?_⟩
 ·rw [findT_snoc hx]
  by_cases e : s = x
  ·subst e
   rw [has_put_same h.isMap (isKeyStr s), if_pos rfl, decide_eq_true (by omega)]
  ·rw [has_put_other (fun e2 => e (by injection e2)), if_neg e, h.has]
 ·unfold atTok
  rw [findT_snoc hx]
  by_cases e : s = x
  ·subst e
   rw [atKey_put_same h.isMap (isKeyStr s), if_pos rfl, if_pos (by omega)]
  ·rw [atKey_put_other (fun e2 => e (by injection e2)), if_neg e, h.at_]
   rfl
theorem mergedB_snoc (M : List Mg) (m : Mg) (a b : Int) : mergedB (M ++ [m]) a b = (mergedB M a b || ((m.a == a) && (m.b == b))) := by
 unfold mergedB
 simp [List.any_append]
theorem PairMap.put {D : DataW Unit} {M : List Mg} (h : PairMap D M) {m : Mg} (ha : fits64 m.a) (hb : fits64 m.b) (d : DataW Unit) : PairMap (D.put (pk m.a m.b) d) (M ++ [m]) := by
 refine ⟨h.isMap.put _ _, fun a b fa fb => ?_⟩
 rw [mergedB_snoc]
 by_cases e : pk a b = pk m.a m.b
 ·obtain ⟨rfl, rfl⟩ := pk_inj fa fb ha hb e
  rw [has_put_same h.isMap (show WideAt.IsKeyLit (pk m.a m.b) from trivial)]
  simp
 ·rw [has_put_other e, h.has a b fa fb]
  have : ((m.a == a) && (m.b == b)) = false := by
   rw [Bool.eq_false_iff]
   intro e2
   simp at e2
   exact e (by rw [← e2.1, ← e2.2])
  rw [this, Bool.or_false]
abbrev tokAt (w : World) (b n : Nat) (D : DataW Unit) : Prop := w.ownsMap Tryz.prog 9 (plainElem Tryz.prog 3) b n D
abbrev pairAt (w : World) (b n : Nat) (D : DataW Unit) : Prop := w.ownsMap Tryz.prog 73 unitElem b n D
theorem tok_look {w : World} {b n : Nat} {D : DataW Unit} {L : List Nm} (h : tokAt w b n D) (hT : TokMap D L) (s : Nm) (hs : s.length ≤ maxLen) :
  (Instr.lookup 218 (.map (some b)) (.string ⟨s.toArray⟩) true).run Tryz.prog w = .ok (.tuple #[.int .i64 (atTok L s), .bool (decide (0 ≤ findT L s))]) w := by
 have hkey : keyOf Tryz.prog 9 (.string ⟨s.toArray⟩) = some (.string s) := by
  have := keyOf_string_mk Tryz.underlying9 (s := ⟨s.toArray⟩) (by simpa [ByteArray.size] using hs)
  simpa using this
 obtain ⟨v, ps, hrun, hv⟩ := h.look_ok strLaw Tryz.underlying218 (intZero _) (plainElem_int Tryz.underlying3 (by decide)) hkey
 obtain ⟨c, rfl, hc, _⟩ := plainElem_int_inv Tryz.underlying3 hv
 rw [hT.has] at hrun
 rw [hT.at_] at hc
 simp only [Prod.mk.injEq, DataW.lit.injEq, Lit.int.injEq, true_and] at hc
 rw [hrun, hc.1]
theorem pair_look {w : World} {b n : Nat} {D : DataW Unit} {M : List Mg} (h : pairAt w b n D) (hP : PairMap D M) {x y : Int} (hx : fits64 x) (hy : fits64 y) :
  (Instr.lookup 219 (.map (some b)) (.agg #[.int .i64 x, .int .i64 y]) true).run Tryz.prog w = .ok (.tuple #[.agg #[], .bool (mergedB M x y)]) w := by
 obtain ⟨v, ps, hrun, hv⟩ := h.look_ok pairLaw Tryz.underlying219 (unitZero _) unitElem_mk (keyOf_pairs hx hy)
 obtain ⟨rfl, _⟩ := unitElem_inv hv
 rw [hP.has x y hx hy] at hrun
 exact hrun
def Own (F : Nat → Prop) (w w' : World) (i : Nat) : Prop := F i ∨ (w.heap.size ≤ i ∧ i < w'.heap.size)
def mgCells (m : Mg) : List Value := [.int .i64 m.a, .int .i64 m.b, .int .i64 m.t]
def mgFits (m : Mg) : Prop := fits64 m.a ∧ fits64 m.b ∧ fits64 m.t
def TokIn (w : World) (F : Nat → Prop) (sv : Value) (x : Nm) : Prop := ∃ A c, sv = .slice A x.length c ∧ x.length ≤ c ∧ BytesIn w A x.length x ∧ ∀ ad, A = some ad → 0 < x.length → ¬ F ad.block
structure IsGrow (w : World) (F : Nat → Prop) (b : Nat) (V : Voc) (tv mv : Value) (bt bp : Nat) (svs : List Value) (DT DP : DataW Unit) : Prop where
 blk : Blk w b 221 #[tv, mv, .map (some bt), .map (some bp)]
 trow : w.ownsRow 0 24 1 tv V.tok.length svs
 toks : ∀ (i : Nat) (sv : Value) (x : Nm), svs[i]? = some sv → V.tok[i]? = some x → TokIn w F sv x
 mrow : w.ownsRow 0 88 3 mv V.mer.length (V.mer.flatMap mgCells)
 fits : ∀ m ∈ V.mer, mgFits m
 tmap : tokAt w bt V.tok.length DT
 pmap : pairAt w bp V.mer.length DP
 isT : TokMap DT V.tok
 isP : PairMap DP V.mer
 nob : bt ≠ bp
 fb : F b
 ft : F bt
 fp : F bp
 fv : ∀ g, tv.ownBlock = some g → F g
 fm : ∀ g, mv.ownBlock = some g → F g
 lt : ∀ i, F i → i < w.heap.size
def Grow (w : World) (F : Nat → Prop) (b : Nat) (V : Voc) : Prop := ∃ tv mv bt bp svs DT DP, IsGrow w F b V tv mv bt bp svs DT DP
theorem TokIn.mono {w w' : World} {F F' : Nat → Prop} {sv : Value} {x : Nm} (h : TokIn w F sv x) {G : Nat → Prop} (hk : Kept G w w') (hG : ∀ i, G i → F i) (hF : ∀ i, F' i → F i ∨ w.heap.size ≤ i) : TokIn w' F' sv x := by
 obtain ⟨A, c, h1, h2, h3, h4⟩ := h
 refine ⟨A, c, h1, h2, ⟨h3.1, h3.2.1.keep fun ad e h0 => hk.block _ (h3.2.2 ad e h0) fun hf => h4 ad e h0 (hG _ hf), fun ad e h0 => Nat.lt_of_lt_of_le (h3.2.2 ad e h0) hk.size⟩, fun ad e h0 hf => ?_⟩
 rcases hF _ hf with h | h
 ·exact h4 ad e h0 h
 ·have := h3.2.2 ad e h0; omega
theorem Blk.same {w w' : World} {g : Nat} {t : TypeId} {cs : Array Value} (h : Blk w g t cs) (e : w'.heap[g]? = w.heap[g]?) : Blk w' g t cs := e.trans h
theorem IsGrow.kept {w w' : World} {F : Nat → Prop} {b : Nat} {V : Voc} {tv mv : Value} {bt bp : Nat} {svs : List Value} {DT DP : DataW Unit} (h : IsGrow w F b V tv mv bt bp svs DT DP) (hb : Below w.heap.size w w') : IsGrow w' F b V tv mv bt bp svs DT DP where
 blk := h.blk.same (hb.block _ (h.lt _ h.fb))
 trow := ownsRow_block h.trow fun g hg => hb.block g (h.lt g (h.fv g hg))
 toks := fun i sv x h1 h2 => (h.toks i sv x h1 h2).mono (G := fun _ => False) (Kept.below hb) (fun _ => False.elim) (fun _ hf => .inl hf)
 mrow := ownsRow_block h.mrow fun g hg => hb.block g (h.lt g (h.fm g hg))
 fits := h.fits
 tmap := ownsMap_block h.tmap (hb.block _ (h.lt _ h.ft))
 pmap := ownsMap_block h.pmap (hb.block _ (h.lt _ h.fp))
 isT := h.isT
 isP := h.isP
 nob := h.nob
 fb := h.fb
 ft := h.ft
 fp := h.fp
 fv := h.fv
 fm := h.fm
 lt := fun i hi => Nat.lt_of_lt_of_le (h.lt i hi) hb.size
theorem Grow.kept {w w' : World} {F : Nat → Prop} {b : Nat} {V : Voc} (h : Grow w F b V) (hb : Below w.heap.size w w') : Grow w' F b V := by
 obtain ⟨tv, mv, bt, bp, svs, DT, DP, h⟩ := h
 exact ⟨tv, mv, bt, bp, svs, DT, DP, h.kept hb⟩
theorem newGrowing_any (w : World) :
  Calls Tryz.prog 87 #[] w fun e w' => ∃ b, e = .returned (at0 b) ∧ Grow w' (fun i => w.heap.size ≤ i ∧ i < w'.heap.size) b ⟨[], []⟩ ∧ Below w.heap.size w w' := by
 have hmm := @run_makeMap Tryz.prog
 go_enter Tryz.func87, Tryz.ntmps87
 go_wp2
 go_ret
 have b1 : Below w.heap.size w (w.alloc (.map #[] 0)) := (Below.refl _ w).alloc (Nat.le_refl _) _
 have b2 : Below w.heap.size w ((w.alloc (.map #[] 0)).alloc (.map #[] 0)) := b1.alloc (by simp) _
 refine ⟨_, rfl, ⟨.slice none 0 0, .slice none 0 0, w.heap.size, w.heap.size + 1, [], .map [], .map [], ?_⟩, b2.alloc (by simp; omega) _⟩
 have m1 : tokAt (((w.alloc (.map #[] 0)).alloc (.map #[] 0)).alloc (.cells #[.slice none 0 0, .slice none 0 0, .map (some w.heap.size), .map (some (w.heap.size + 1))] 221)) w.heap.size 0 (.map []) :=
  ((World.ownsMap_made w _ _ _).alloc _).alloc _
 have m2 : pairAt (((w.alloc (.map #[] 0)).alloc (.map #[] 0)).alloc (.cells #[.slice none 0 0, .slice none 0 0, .map (some w.heap.size), .map (some (w.heap.size + 1))] 221)) (w.heap.size + 1) 0 (.map []) := by
  have h := (World.ownsMap_made (H := Unit) (w.alloc (.map #[] 0)) Tryz.prog 73 unitElem)
  simp only [World.size_alloc] at h
  exact h.alloc _
 exact {
  blk := by
   have h := Blk.new ((w.alloc (.map #[] 0)).alloc (.map #[] 0)) 221 #[.slice none 0 0, .slice none 0 0, .map (some w.heap.size), .map (some (w.heap.size + 1))]
   simpa using h
  trow := World.ownsRow_nil _ _ _ _
  toks := fun i sv x h1 _ => by simp at h1
  mrow := World.ownsRow_nil _ _ _ _
  fits := fun m h => by simp at h
  tmap := m1
  pmap := m2
  isT := TokMap.nil
  isP := PairMap.nil
  nob := by omega
  fb := by simp; omega
  ft := by simp; omega
  fp := by simp
  fv := fun g h => by simp [Value.ownBlock] at h
  fm := fun g h => by simp [Value.ownBlock] at h
  lt := fun i hi => hi.2 }
theorem isIndex_any (w : World) (F : Nat → Prop) (b : Nat) (V : Voc) (hG : Grow w F b V) (i : Int) :
  Calls Tryz.prog 173 #[at0 b, .int .i64 i] w fun e w' => e = .returned (.bool (decide (0 ≤ i ∧ i < V.tok.length))) ∧ w' = w := by
 obtain ⟨tv, mv, bt, bp, svs, DT, DP, h⟩ := hG
 obtain ⟨A, c, rfl⟩ := own_slice h.trow
 have e0 := h.blk.cell 0
 simp only [lz0, lz1] at e0
 obtain ⟨n, hn⟩ : ∃ n, n = V.tok.length := ⟨_, rfl⟩
 rw [← hn] at e0 ⊢
 clear h hn
 unfold at0
 by_cases h1 : i < 0
 ·rw [decide_eq_false (by omega)]
  go_enter Tryz.func173, Tryz.ntmps173
  go_wp2
  go_ret
  exact ⟨rfl, rfl⟩
 ·have h1' : 0 ≤ i := by omega
  by_cases h2 : i < (n : Int)
  ·rw [decide_eq_true (by omega)]
   go_enter Tryz.func173, Tryz.ntmps173
   go_wp2
   go_ret
   exact ⟨rfl, rfl⟩
  ·rw [decide_eq_false (by omega)]
   go_enter Tryz.func173, Tryz.ntmps173
   go_wp2
   go_ret
   exact ⟨rfl, rfl⟩
theorem pairCells : (Tryz.prog.info? 73).map (·.size) = some 2 := by kernel_rfl
theorem pairOf_any (w : World) (a b t : Int) :
  Calls Tryz.prog 136 #[.agg #[.int .i64 a, .int .i64 b, .int .i64 t]] w fun e w' => e = .returned (.agg #[.int .i64 a, .int .i64 b]) ∧ Below w.heap.size w w' := by
 go_enter Tryz.func136, Tryz.ntmps136
 go_wp2
 refine bodyPost_ret (results_cell_row rfl _ _ (w.heap.size + 1) 73 #[.int .i64 a, .int .i64 b] (0, 0) _ rfl ?_ Tryz.underlying73 rfl pairCells) rfl ⟨rfl, ?_⟩
 ·have h := Blk.new (w.alloc (.cells #[.int .i64 a, .int .i64 b, .int .i64 t] 88)) 73 #[.int .i64 a, .int .i64 b]
  simpa [Blk] using h
 ·exact ((Below.refl _ w).alloc (Nat.le_refl _) _).alloc (by simp) _
theorem hasToken_any (w : World) (F : Nat → Prop) (b : Nat) (V : Voc) (hG : Grow w F b V) (A : Option Addr) (n c : Nat) (x : Nm) (hx : BytesIn w A n x) :
  Calls Tryz.prog 135 #[at0 b, .slice A n c] w fun e w' => e = .returned (.bool (decide (0 ≤ findT V.tok x))) ∧ Below w.heap.size w w' := by
 obtain ⟨tv, mv, bt, bp, svs, DT, DP, h⟩ := hG
 have hxn : x.length ≤ maxLen := by have := hx.2.1.len; have := hx.1; simp at *; omega
 have e2 : ∀ q, (w.drewN q).cell? ⟨b, 2, none⟩ = some (.map (some bt)) := fun q => by
  have := (h.blk.drewN q).cell 2
  simpa using this
 have hlk : ∀ q, (Instr.lookup 218 (.map (some bt)) (.string ⟨x.toArray⟩) true).run Tryz.prog (w.drewN q) = .ok (.tuple #[.int .i64 (atTok V.tok x), .bool (decide (0 ≤ findT V.tok x))]) (w.drewN q) := fun q => tok_look (w := w.drewN q) (ownsMap_block h.tmap rfl) h.isT x hxn
 have hcv : ∀ q, (convert 24 9 (.slice A n c)).run Tryz.prog (w.drewN q) = .ok (.string ⟨x.toArray⟩) (w.drewN q) := fun q => str_of (hx.drewN q) c
 obtain ⟨R, hR⟩ : ∃ R, R = decide (0 ≤ findT V.tok x) := ⟨_, rfl⟩
 rw [← hR]
 rw [← hR] at hlk
 obtain ⟨T, hT⟩ : ∃ T, T = atTok V.tok x := ⟨_, rfl⟩
 rw [← hT] at hlk
 clear h hx hR hT
 unfold at0
 go_enter Tryz.func135, Tryz.ntmps135
 go_wp2_with fail
 go_quiet (fail)
 go_wp2
 go_ret
 exact ⟨rfl, below_drewN (Below.refl _ _) _⟩
theorem isIndex_is (w : World) (F : Nat → Prop) (b : Nat) (V : Voc) (hG : Grow w F b V) (i : Int) {r : Bool} (hr : decide (0 ≤ i ∧ i < V.tok.length) = r) :
  Calls Tryz.prog 173 #[at0 b, .int .i64 i] w fun e w' => e = .returned (.bool r) ∧ w' = w := by
 have h := isIndex_any w F b V hG i
 rw [hr] at h
 exact h
theorem isFree_any (w : World) (F : Nat → Prop) (b : Nat) (V : Voc) (hG : Grow w F b V) (x y : Int) (hx : fits64 x) (hy : fits64 y) :
  Calls Tryz.prog 137 #[at0 b, .agg #[.int .i64 x, .int .i64 y]] w fun e w' => e = .returned (.bool (decide (0 ≤ x ∧ x < V.tok.length) && (decide (0 ≤ y ∧ y < V.tok.length) && !(mergedB V.mer x y)))) ∧ Below w.heap.size w w' := by
 have HG := Lib.hid hG
 obtain ⟨tv, mv, bt, bp, svs, DT, DP, h⟩ := hG
 have HB := Lib.hid h.blk
 have HP := Lib.hid h.pmap
 have HI := Lib.hid h.isP
 obtain ⟨R, hR⟩ : ∃ R, R = mergedB V.mer x y := ⟨_, rfl⟩
 rw [← hR]
 have hb1 : ∀ w', Below w.heap.size w w' → w'.cell? ⟨b, 3, none⟩ = some (.map (some bp)) := fun w' hb => by
  have := (HB.out.below hb HB.out.lt).cell 3
  simpa using this
 have hlk : ∀ w', Below w.heap.size w w' → (Instr.lookup 219 (.map (some bp)) (.agg #[.int .i64 x, .int .i64 y]) true).run Tryz.prog w' = .ok (.tuple #[.agg #[], .bool R]) w' := fun w' hb => by
  rw [hR]
  exact pair_look (ownsMap_block HP.out (hb.block _ HP.out.lt)) HI.out hx hy
 have HL := Lib.hid hlk
 have HC := Lib.hid hb1
 have b1 : Below w.heap.size w (w.alloc (.cells #[.int .i64 x, .int .i64 y] 73)) := (Below.refl _ w).alloc (Nat.le_refl _) _
 have b2 : Below w.heap.size w ((w.alloc (.cells #[.int .i64 x, .int .i64 y] 73)).alloc (.cells #[] 150)) := b1.alloc (by simp) _
 have B1 := Lib.hid b1
 have B2 := Lib.hid b2
 clear h hR hb1 hlk b1 b2
 have c1 := HC.out _ B1.out
 have c2 := HC.out _ B2.out
 have l1 := HL.out _ B1.out.drew
 have l2 := HL.out _ B2.out.drew
 unfold at0
 go_enter Tryz.func137, Tryz.ntmps137
 go_wp2
 go_region
 all_goals
  have GW := Lib.hid (HG.out.kept B2.out.drew)
  have BF := Lib.hid B2.out.drew
  clear HL HC B1 B2 HP HI HB HG c1 c2 l1 l2
  cases q1 : decide (0 ≤ x ∧ x < V.tok.length) with
  | false =>
   have Q1 := Lib.hid q1
   clear q1
   go_wp2_with fail
   refine (isIndex_is _ F b V GW.out x Q1.out).mono ?_
   rintro e w2 ⟨rfl, rfl⟩
   go_wp2
   go_ret
   exact ⟨by rw [Q1.out]; rfl, BF.out⟩
  | true =>
   have Q1 := Lib.hid q1
   clear q1
   go_wp2_with fail
   refine (isIndex_is _ F b V GW.out x Q1.out).mono ?_
   rintro e w2 ⟨rfl, rfl⟩
   cases q2 : decide (0 ≤ y ∧ y < V.tok.length) with
   | false =>
    have Q2 := Lib.hid q2
    clear q2
    go_wp2_with fail
    refine (isIndex_is _ F b V GW.out y Q2.out).mono ?_
    rintro e w2 ⟨rfl, rfl⟩
    go_wp2
    go_ret
    exact ⟨by rw [Q1.out, Q2.out]; rfl, BF.out⟩
   | true =>
    have Q2 := Lib.hid q2
    clear q2
    go_wp2_with fail
    refine (isIndex_is _ F b V GW.out y Q2.out).mono ?_
    rintro e w2 ⟨rfl, rfl⟩
    go_wp2
    go_ret
    exact ⟨by rw [Q1.out, Q2.out]; simp, BF.out⟩
theorem sGrow_any (w : World) (n : Nat) (h0 : 0 < n) (hn : n ≤ 1099511627776) :
  Calls Tryz.prog 79 #[.slice none 0 0, .int .i64 n] w fun e w' => ∃ c, e = .returned (.slice (some ⟨w.heap.size, 0, none⟩) 0 c) ∧ w'.ownsRow w.heap.size 5 1 (.slice (some ⟨w.heap.size, 0, none⟩) 0 c) 0 [] ∧ Below w.heap.size w w' := by
 obtain ⟨i0, hi, hz0, hz1, hz2⟩ := info_parts byteInfo
 have hG := grownCap_le_maxLen w n 0 5 (by unfold maxLen; omega)
 have hGn : n ≤ grownCap w n 0 5 := grownCap_ge w _ _ _
 have hfit : Builtin.nextslicecap n 0 * i0.bytes ≤ 281474976710656 := growslice_fits (by omega) (by rw [hz2]; omega)
 have hrz : ∀ ty, (Builtin.append_ #[24, 3] ty #[.slice none 0 0, .int .i64 (n : Int)]).run Tryz.prog w =
   .ok (.slice (some ⟨w.heap.size, 0, none⟩) n (grownCap w n 0 5)) (w.drew.alloc (.cells (#[] ++ Builtin.zeroCells (Value.int .u8 0).cells n ++ Builtin.zeroCells (Value.int .u8 0).cells (grownCap w n 0 5 - n)) 5)) := fun ty => by
  have h := Lib.run_append_grow_zeros w 24 3 ty 5 i0 (.int .u8 0) .i64 .i64 Tryz.underlying24 Tryz.underlying3 hi hz0 none 0 0 [] (run_firstCells_none w.drew i0.size 0 0 0) n h0 (by rw [hz1]; omega) (by omega) (by omega) (by rw [hz2]; omega) (by simpa using hfit)
  simpa using h
 obtain ⟨G, hGe⟩ : ∃ G, G = grownCap w n 0 5 := ⟨_, rfl⟩
 rw [← hGe] at hG hGn hrz
 have hown := World.ownsRow_made (base := w.heap.size) (e := 5) (size := 1) w.drew (#[] ++ Builtin.zeroCells (Value.int .u8 0).cells n ++ Builtin.zeroCells (Value.int .u8 0).cells (G - n)) G (Nat.le_refl _) hG (by
  simp only [Array.size_append, size_zeroCells]
  have : (Value.int .u8 0).cells.size = 1 := rfl
  rw [this]
  simp
  omega)
 have hbel : Below w.heap.size w (w.drew.alloc (.cells (#[] ++ Builtin.zeroCells (Value.int .u8 0).cells n ++ Builtin.zeroCells (Value.int .u8 0).cells (G - n)) 5)) := (Below.refl _ w).drew.alloc (Nat.le_refl _) _
 obtain ⟨W2, hW2⟩ : ∃ W2, W2 = w.drew.alloc (.cells (#[] ++ Builtin.zeroCells (Value.int .u8 0).cells n ++ Builtin.zeroCells (Value.int .u8 0).cells (G - n)) 5) := ⟨_, rfl⟩
 rw [← hW2] at hrz hown hbel
 have HO := Lib.hid hown
 have HB := Lib.hid hbel
 have hs0 : ∀ w : World, (Instr.slice 24 (.slice none 0 0) none (some (.int .i64 0)) none).run Tryz.prog w = .ok (.slice none 0 0) w := fun w => by
  have := slice_to w none 0 0 0 (Nat.le_refl _)
  simpa using this
 have hs1 : ∀ w1 : World, (Instr.slice 24 (.slice (some ⟨w.heap.size, 0, none⟩) n G) none (some (.int .i64 0)) none).run Tryz.prog w1 = .ok (.slice (some ⟨w.heap.size, 0, none⟩) 0 G) w1 := fun w1 => by
  have := slice_to w1 (some ⟨w.heap.size, 0, none⟩) n G 0 (Nat.zero_le _)
  simpa using this
 have p1 : (0 : Int) < (n : Int) := by omega
 have p2 : ¬ (n : Int) < 0 := by omega
 have p3 : (n : Int) ≤ 1099511627776 := by omega
 clear hG hGn hfit hGe hown hbel hW2 hi hz0 hz1 hz2
 go_enter Tryz.func79, Tryz.ntmps79
 go_wp2_with (at_builtin; refine Lib.wpList_append_run _ rfl _ _ _ _ rfl _ _ rfl rfl _ _ (hrz _) ?_)
 go_ret
 exact ⟨G, rfl, HO.out, HB.out⟩
theorem cat_one (x : Nm) : ∀ u ∈ x.map byteV, u.oneCell' = true := u8_one x
theorem concat_any (w : World) (g : Nat) (A B : Option Addr) (n m c d : Nat) (x y : Nm) (hg : Blk w g 24 #[.slice A n c, .slice B m d]) (hx : BytesIn w A n x) (hy : BytesIn w B m y) (h0 : 0 < n + m) (hn : n ≤ 1048576) (hm : m ≤ 1048576) :
  Calls Tryz.prog 34 #[.slice (some ⟨g, 0, none⟩) 2 2] w fun e w' => ∃ v, e = .returned v ∧ w'.ownsRow w.heap.size 5 1 v (n + m) ((x ++ y).map byteV) ∧ Below w.heap.size w w' := by
 obtain ⟨i0, hi, hz0, hz1, hz2⟩ := info_parts byteInfo
 have HG := Lib.hid hg
 have HX := Lib.hid hx
 have HY := Lib.hid hy
 have e0 := hg.cell 0
 have e1 := hg.cell 1
 simp only [lz0, lz1, lz2] at e0 e1
 have p1 : ¬ ((n : Int) < 0) := by omega
 obtain ⟨t, ht⟩ : ∃ t : Nat, t = n + m := ⟨_, rfl⟩
 have ht' : (n : Int) + (m : Int) = (t : Int) := by omega
 have ht2 : t ≤ 2097152 := by omega
 have p2 : ¬ ((t : Int) < 0) := by omega
 have HT := Lib.hid ht
 have p3 : 0 < t := by omega
 clear ht
 clear hg hx hy
 go_enter Tryz.func34, Tryz.ntmps34
 go_wp2
 refine wp_loop_rounds 3 ?_
 rw [rounds_succ]
 go_wp2
 rw [rounds_succ]
 go_wp2
 rw [rounds_succ]
 go_wp2_with fail
 refine (sGrow_any _ t p3 (by omega)).mono ?_
 rintro e w1 ⟨c1, rfl, hown, hb⟩
 have e0' := (HG.out.below hb HG.out.lt).cell 0
 have e1' := (HG.out.below hb HG.out.lt).cell 1
 simp only [lz0, lz1, lz2] at e0' e1'
 have HO := Lib.hid hown
 have HB := Lib.hid hb
 have X1 := Lib.hid (HX.out.below hb)
 have Y1 := Lib.hid (HY.out.below hb)
 have hsz := hb.size
 clear hown hb ht' e0 e1
 go_wp2
 refine wp_loop_rounds 3 ?_
 rw [rounds_succ]
 go_wp2_with (at_builtin; refine wpList_append_src _ rfl _ _ 24 rfl w.heap.size 5 i0 (.int .u8 0) 1 Tryz.underlying24 hi hz0 hz1 hz2 rfl _ 0 [] rfl HO.out A n c (x.map byteV) rfl X1.out.2.1 (cat_one x) (by unfold maxLen; omega) (by omega) hsz ?_; intro v2 w2 hown2 hgrow2 hloc2; rw [Nat.zero_add, List.nil_append] at hown2)
 have hb2 : Below w.heap.size w w2 := HB.out.grown hgrow2 hsz (fun k e => by cases e; exact Nat.le_refl _)
 have HB2 := Lib.hid hb2
 have HO2 := Lib.hid hown2
 have hsz2 := hb2.size
 have Y2 := Lib.hid (HY.out.below hb2)
 have e1'' := (HG.out.below hb2 HG.out.lt).cell 1
 simp only [lz0, lz1, lz2] at e1''
 clear hb2 hown2 hgrow2 hloc2 e0' e1' hsz
 obtain ⟨A2, cc2, rfl⟩ := own_slice HO2.out
 rw [rounds_succ]
 go_wp2_with (at_builtin; refine wpList_append_src _ rfl _ _ 24 rfl w.heap.size 5 i0 (.int .u8 0) 1 Tryz.underlying24 hi hz0 hz1 hz2 rfl _ n (x.map byteV) rfl HO2.out B m d (y.map byteV) rfl Y2.out.2.1 (cat_one y) (by unfold maxLen; omega) (by omega) hsz2 ?_; intro v3 w3 hown3 hgrow3 hloc3)
 have hb3 : Below w.heap.size w w3 := HB2.out.grown hgrow3 hsz2 (fun k e => (HO2.out.lt k e).1)
 have HB3 := Lib.hid hb3
 rw [← List.map_append] at hown3
 have HO3 := Lib.hid hown3
 clear hb3 hown3 hgrow3 hloc3 e1''
 rw [rounds_succ]
 go_wp2
 go_ret
 exact ⟨_, rfl, HO3.out, HB3.out⟩
end Go.Proofs.YthcjikpabpgpfaaGreat
namespace Go.Proofs.YthcjikpabpgpfaaGreat
theorem mD_get {L : List MDoc} {i : Nat} (h : i < L.length) : L[i]? = some (mD L i) := by
 unfold mD
 rw [List.getD_eq_getElem?_getD, List.getElem?_eq_getElem h]
 rfl
theorem spots_none {x : MDoc} {t : Int} (h : (mSpots x t).length = 0) : t ∉ x.T := fun hm => by
 obtain ⟨k, hk, rfl⟩ := List.getElem_of_mem hm
 have h1 : ((k : Int), x.S.getD k 0) ∈ mSpots x x.T[k] := spotUp_mem.2 ⟨k, hk, by rw [List.getD_eq_getElem?_getD, List.getElem?_eq_getElem hk]; rfl, rfl⟩
 have := List.length_pos_of_mem h1
 omega
theorem spots_some {x : MDoc} {t : Int} (h : 0 < (mSpots x t).length) : t ∈ x.T := by
 obtain ⟨s, hs⟩ := List.exists_mem_of_length_pos h
 obtain ⟨k, hk, h1, -⟩ := spotUp_mem.1 hs
 rw [← h1, List.getD_eq_getElem?_getD, List.getElem?_eq_getElem hk]
 exact List.getElem_mem hk
theorem postUp_pos {L : List MDoc} {t : Int} : ∀ {i : Nat}, i ≤ L.length → (0 < (postUp L t i).length ↔ ∃ y ∈ L.take i, t ∈ y.T)
 | 0, _ => by simp [postUp]
 | i + 1, h => by
  rw [postUp, List.length_append, List.take_add_one, mD_get (by omega)]
  have ih := postUp_pos (L := L) (t := t) (i := i) (by omega)
  unfold postOne
  by_cases h0 : 0 < (mSpots (mD L i) t).length
  ·rw [if_pos h0]
   refine ⟨fun _ => ⟨mD L i, by simp, spots_some h0⟩, fun _ => by simp⟩
  ·rw [if_neg h0]
   rw [List.length_nil, Nat.add_zero, ih]
   refine ⟨fun ⟨y, h1, h2⟩ => ⟨y, by simp [h1], h2⟩, fun ⟨y, h1, h2⟩ => ?_⟩
   rcases List.mem_append.1 h1 with h3 | h3
   ·exact ⟨y, h3, h2⟩
   ·simp at h3
    subst h3
    exact absurd h2 (spots_none (by omega))
theorem posts_pos (L : List MDoc) (t : Int) : decide (0 < (mPosts L t).length) = decide (t ∈ mTerms L) := by
 rw [Bool.eq_iff_iff, decide_eq_true_iff, decide_eq_true_iff, terms_mem]
 unfold mPosts
 rw [postUp_pos (Nat.le_refl _), List.take_length]
theorem spot_count (x : MDoc) (t : Int) : ∀ k, k ≤ x.T.length → (spotUp x t k).length = (x.T.take k).count t
 | 0, _ => by simp [spotUp]
 | k + 1, h => by
  have ih := spot_count x t k (by omega)
  have h1 : x.T[k]? = some (x.T.getD k 0) := by rw [List.getD_eq_getElem?_getD, List.getElem?_eq_getElem (by omega)]; rfl
  rw [spotUp, List.take_add_one, h1, List.count_append]
  by_cases e : x.T.getD k 0 = t
  ·rw [if_pos e, List.length_append, ih, e]
   simp
  ·rw [if_neg e, ih]
   have h2 : List.count t (some (x.T.getD k 0)).toList = 0 := List.count_eq_zero.2 (by simp; exact fun h => e h.symm)
   rw [h2]
   rfl
theorem spots_count (x : MDoc) (t : Int) : (mSpots x t).length = x.T.count t := by
 unfold mSpots
 rw [spot_count x t _ (Nat.le_refl _), List.take_length]
def spotsOf (l : List Pst) : Nat := (l.map fun p => p.2.length).sum
theorem posts_count (L : List MDoc) (t : Int) : ∀ k, k ≤ L.length → spotsOf (postUp L t k) = ((L.take k).map fun x => x.T.count t).sum
 | 0, _ => by simp [postUp, spotsOf]
 | k + 1, h => by
  have ih := posts_count L t k (by omega)
  unfold spotsOf at ih
  rw [postUp, List.take_add_one, mD_get (by omega)]
  unfold spotsOf
  rw [List.map_append, List.map_append, List.sum_append, List.sum_append, ih]
  unfold postOne
  have hc := spots_count (mD L k) t
  split
  ·simp [hc]
  ·simp
   omega
theorem count_all : ∀ (T l : List Int), l.Nodup → (∀ a ∈ T, a ∈ l) → (l.map fun t => T.count t).sum = T.length
 | [], l, _, _ => by
  rw [show (fun t : Int => List.count t []) = fun _ => 0 by funext t; simp]
  induction l with
  | nil => rfl
  | cons a r ih => simp_all
 | a :: T, l, hn, hm => by
  have ih := count_all T l hn (fun b hb => hm b (List.mem_cons_of_mem _ hb))
  have h1 : ∀ m : List Int, (m.map fun t => (a :: T).count t).sum = (m.map fun t => T.count t).sum + m.count a := fun m => by
   induction m with
   | nil => rfl
   | cons b r ih2 =>
    rw [List.map_cons, List.sum_cons, ih2, List.map_cons, List.sum_cons, List.count_cons, List.count_cons]
    by_cases e : a = b
    ·subst e
     simp
     omega
    ·have e2 : ¬ b = a := fun h => e h.symm
     simp [e, e2]
     omega
  rw [h1, ih, hn.count (a := a), if_pos (hm a (List.mem_cons_self ..))]
  rfl
theorem sum_swap {α : Type} (l : List Int) (L : List α) (f : Int → α → Nat) : (l.map fun t => (L.map fun x => f t x).sum).sum = (L.map fun x => (l.map fun t => f t x).sum).sum := by
 induction L with
 | nil =>
  simp only [List.map_nil, List.sum_nil]
  induction l with
  | nil => rfl
  | cons a r ih => simp_all
 | cons x r ih =>
  simp only [List.map_cons, List.sum_cons]
  rw [← ih]
  clear ih
  induction l with
  | nil => rfl
  | cons a s ih2 =>
   simp only [List.map_cons, List.sum_cons]
   omega
theorem terms_count (L : List MDoc) : ((mTerms L).map fun t => spotsOf (mPosts L t)).sum = totT L := by
 have hn : (mTerms L).Nodup := (terms_up L).imp fun h => by omega
 have h1 : (fun t => spotsOf (mPosts L t)) = fun t => (L.map fun x => x.T.count t).sum := by
  funext t
  unfold mPosts
  rw [posts_count L t _ (Nat.le_refl _), List.take_length]
 rw [h1, sum_swap]
 unfold totT
 congr 1
 refine List.map_congr_left fun x hx => count_all x.T _ hn fun a ha => terms_mem.2 ⟨x, hx, ha⟩
end Go.Proofs.YthcjikpabpgpfaaGreat
