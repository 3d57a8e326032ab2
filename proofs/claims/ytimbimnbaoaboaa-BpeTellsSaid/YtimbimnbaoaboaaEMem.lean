/- Steps held against each other: the program's downwards. A coder, and a row of tokens, in memory. The program's stepAt: which merge is possible at a place. -/
import Derived.Test.YtimbimnbaoaboaaEMath
import Derived.Test.YtimbimnbaoaboaaKInts
import Derived.StillTailTactics
import Derived.Sort.Grow
import Derived.Shelf.SlSortCmp.Insertion
import Derived.Test.YtimbimnbaoaboaaVRows2
namespace Go.Proofs.Ytimbimnbaoaboaa
open Go.RowKit Go.Maps Go.WideMaps Go.Sort

def cmpI (x y : Int) : Int := if x < y then -1 else if y < x then 1 else 0
set_option maxHeartbeats 400000 in
set_option maxRecDepth 100000 in
theorem isNaN_any (w : World) (x : Int) : Calls Try.prog 68 #[.int .i64 x] w fun e w' => e = .returned (.bool false) ∧ w' = w := by
  go_enter Try.func68, Try.ntmps68
  go_wp2
  go_ret
  exact ⟨rfl, rfl⟩
set_option maxHeartbeats 400000 in
set_option maxRecDepth 100000 in
theorem compare_any (w : World) (x y : Int) : Calls Try.prog 51 #[.int .i64 x, .int .i64 y] w fun e w' => e = .returned (.int .i64 (cmpI x y)) ∧ w' = w := by
  unfold cmpI
  by_cases h1 : x < y
  · rw [if_pos h1]
    go_enter Try.func51, Try.ntmps51
    go_wp2_with (go_at_call 68; refine (isNaN_any _ _).mono ?_; rintro e w' ⟨rfl, rfl⟩)
    go_ret
    exact ⟨rfl, rfl⟩
  · by_cases h2 : y < x
    · rw [if_neg h1, if_pos h2]
      go_enter Try.func51, Try.ntmps51
      go_wp2_with (go_at_call 68; refine (isNaN_any _ _).mono ?_; rintro e w' ⟨rfl, rfl⟩)
      go_ret
      exact ⟨rfl, rfl⟩
    · rw [if_neg h1, if_neg h2]
      go_enter Try.func51, Try.ntmps51
      go_wp2_with (go_at_call 68; refine (isNaN_any _ _).mono ?_; rintro e w' ⟨rfl, rfl⟩)
      go_ret
      exact ⟨rfl, rfl⟩
theorem compare_is (w : World) (x y : Int) {r : Int} (h : cmpI x y = r) : Calls Try.prog 51 #[.int .i64 x, .int .i64 y] w fun e w' => e = .returned (.int .i64 r) ∧ w' = w := by
  have := compare_any w x y
  rw [h] at this
  exact this

def orI (x y : Int) : Int := if x = 0 then y else x
set_option maxHeartbeats 1000000 in
set_option maxRecDepth 100000 in
theorem or_any (w : World) (b : Nat) (x y : Int) (h0 : w.cell? ⟨b, 0, none⟩ = some (.int .i64 x)) (h1 : w.cell? ⟨b, 1, none⟩ = some (.int .i64 y)) :
    Calls Try.prog 50 #[.slice (some ⟨b, 0, none⟩) 2 2] w fun e w' => e = .returned (.int .i64 (orI x y)) ∧ w' = w := by
  unfold orI
  by_cases hx : x = 0
  · by_cases hy : y = 0
    · subst hx; subst hy
      go_enter Try.func50, Try.ntmps50
      go_wp2
      go_loop [8] (fun i => ∃ k : Nat, k ≤ 2 ∧ i = .int .i64 k) (fun i => 2 - (intOf i).toNat)
      case atStart => exact ⟨0, by omega, rfl⟩
      case round =>
        obtain ⟨k, hk, rfl⟩ := hrel
        obtain rfl | rfl | rfl : k = 0 ∨ k = 1 ∨ k = 2 := by omega
        · go_wp2
          go_round
          case rel => exact ⟨1, by omega, rfl⟩
          case measure => simp [intOf]
        · go_wp2
          go_round
          case rel => exact ⟨2, by omega, rfl⟩
          case measure => simp [intOf]
        · go_wp2
          go_ret
          exact ⟨rfl, rfl⟩
    · subst hx
      go_enter Try.func50, Try.ntmps50
      go_wp2
      go_loop [8] (fun i => ∃ k : Nat, k ≤ 1 ∧ i = .int .i64 k) (fun i => 2 - (intOf i).toNat)
      case atStart => exact ⟨0, by omega, rfl⟩
      case round =>
        obtain ⟨k, hk, rfl⟩ := hrel
        obtain rfl | rfl : k = 0 ∨ k = 1 := by omega
        · go_wp2
          go_round
          case rel => exact ⟨1, by omega, rfl⟩
          case measure => simp [intOf]
        · go_wp2
          go_ret
          exact ⟨rfl, rfl⟩
  · rw [if_neg hx]
    go_enter Try.func50, Try.ntmps50
    go_wp2
    go_loop [8] (fun i => i = .int .i64 0) (fun i => 2 - (intOf i).toNat)
    case atStart => exact rfl
    case round =>
      obtain rfl := hrel
      go_wp2
      go_ret
      exact ⟨rfl, rfl⟩

theorem alloc3 (w : World) (a b c : Obj) : ((w.alloc a).alloc b).drew.alloc c = grow (w.drewN 1) (#[a] ++ #[b] ++ #[c]) := by
  show ((w.drew.alloc a).alloc b).alloc c = _
  rw [alloc_eq_grow, alloc_eq_grow, alloc_eq_grow, grow_grow, grow_grow]
  rfl
def stV (s : Nat × Nat) : List Value := [.int .i64 s.1, .int .i64 s.2]
def dwn (s t : Nat × Nat) : Int := orI (cmpI t.1 s.1) (cmpI t.2 s.2)
theorem dwn_neg (s t : Nat × Nat) : dwn s t < 0 ↔ gtS s t := by
  unfold dwn orI cmpI gtS
  split <;> split at * <;> (try split at *) <;> (try split) <;> (try split) <;> omega
theorem dwn_fits (s t : Nat × Nat) : -1 ≤ dwn s t ∧ dwn s t ≤ 1 := by
  unfold dwn orI cmpI
  split <;> split at * <;> (try split at *) <;> (try split) <;> (try split) <;> omega
set_option maxHeartbeats 1000000 in
set_option maxRecDepth 100000 in
theorem downwards_any (w : World) (s t : Nat × Nat) :
    Calls Try.prog 39 #[.agg #[.int .i64 s.1, .int .i64 s.2], .agg #[.int .i64 t.1, .int .i64 t.2]] w fun e w' => e = .returned (.int .i64 (dwn s t)) ∧ ∃ q os, w' = grow (w.drewN q) os := by
  obtain ⟨a, b⟩ := s
  obtain ⟨c, d⟩ := t
  unfold dwn
  obtain ⟨x, hx⟩ : ∃ x, x = cmpI (c : Int) (a : Int) := ⟨_, rfl⟩
  obtain ⟨y, hy⟩ : ∃ y, y = cmpI (d : Int) (b : Int) := ⟨_, rfl⟩
  simp only [← hx, ← hy]
  have HX := Lib.hid hx
  have HY := Lib.hid hy
  clear hx hy
  go_enter Try.func39, Try.ntmps39
  go_wp2_with fail
  obtain ⟨W, hW⟩ : ∃ W, W = (w.alloc (.cells #[.int .i64 a, .int .i64 b] 78)).alloc (.cells #[.int .i64 c, .int .i64 d] 78) := ⟨_, rfl⟩
  rw [← hW]
  have B1 : Blk W w.heap.size 78 #[.int .i64 a, .int .i64 b] := by rw [hW]; exact (Blk.new w _ _).alloc _
  have B2 : Blk W (w.heap.size + 1) 78 #[.int .i64 c, .int .i64 d] := by
    rw [hW]
    have := Blk.new (w.alloc (.cells #[.int .i64 a, .int .i64 b] 78)) 78 #[.int .i64 c, .int .i64 d]
    simpa using this
  have g1 := B1.cell 0
  have g2 := B1.cell 1
  have g3 := B2.cell 0
  have g4 := B2.cell 1
  simp only [List.getElem?_toArray, List.getElem?_cons_zero, List.getElem?_cons_succ] at g1 g2 g3 g4
  have HW := Lib.hid hW
  clear hW B1 B2
  refine wp_region_still_tail 10 (by kernel_rfl) (by kernel_rfl) ?_
  simp only [List.take_succ_cons, List.take_zero, List.drop_succ_cons, List.drop_zero]
  repeat still_step
  still_call (compare_is _ _ _ HX.out.symm)
  repeat still_step
  still_call (compare_is _ _ _ HY.out.symm)
  repeat still_step
  refine wpStill_nil ?_
  change wpList _ _ _ _ _ W.drew
  have h0 : ((W.drew).alloc (.cells #[.int .i64 x, .int .i64 y] 3)).cell? ⟨W.heap.size, 0, none⟩ = some (.int .i64 x) := by
    have := (Blk.new W.drew 3 #[.int .i64 x, .int .i64 y]).cell 0
    simpa using this
  have h1 : ((W.drew).alloc (.cells #[.int .i64 x, .int .i64 y] 3)).cell? ⟨W.heap.size, 1, none⟩ = some (.int .i64 y) := by
    have := (Blk.new W.drew 3 #[.int .i64 x, .int .i64 y]).cell 1
    simpa using this
  have H0 := Lib.hid h0
  have H1 := Lib.hid h1
  clear h0 h1 g1 g2 g3 g4
  go_wp2_with (go_at_call 50; refine (or_any _ _ _ _ H0.out H1.out).mono ?_; rintro e w' ⟨rfl, rfl⟩)
  go_ret
  exact ⟨rfl, 1, _, by rw [HW.out]; exact alloc3 w _ _ _⟩
end Go.Proofs.Ytimbimnbaoaboaa
namespace Go.Proofs.Ytimbimnbaoaboaa
open Go.RowKit Go.Maps Go.WideMaps
set_option linter.unusedSimpArgs false

def rkInt (M : List Mg) (a b : Int) : Int := match rkOf M a b with | some k => (k : Int) | none => 0
theorem rkOf_snoc {M : List Mg} {m : Mg} (h : mergedB M m.a m.b = false) (a b : Int) : rkOf (M ++ [m]) a b = if m.a = a ∧ m.b = b then some M.length else rkOf M a b := by
  unfold rkOf
  rw [List.findIdx?_append]
  split
  · rename_i e
    obtain ⟨rfl, rfl⟩ := e
    have := rkOf_none.2 h
    unfold rkOf at this
    rw [this]
    simp
  · rename_i e
    have : ([m].findIdx? fun m => decide (m.a = a ∧ m.b = b)) = none := by simp [e]
    rw [this]
    cases M.findIdx? fun m => decide (m.a = a ∧ m.b = b) <;> rfl
structure RankMap (D : DataW Unit) (M : List Mg) : Prop where
  isMap : IsMap D
  has : ∀ a b, fits64 a → fits64 b → Maps.has D (pk a b) = (rkOf M a b).isSome
  at_ : ∀ a b, fits64 a → fits64 b → D.atKey (pk a b) (.lit (.int .i64 0)) = .lit (.int .i64 (rkInt M a b))
theorem RankMap.nil : RankMap (.map []) [] := ⟨isMap_empty, fun _ _ _ _ => rfl, fun _ _ _ _ => rfl⟩
theorem RankMap.put {D : DataW Unit} {M : List Mg} (h : RankMap D M) {m : Mg} (hm : mergedB M m.a m.b = false) (ha : fits64 m.a) (hb : fits64 m.b) : RankMap (D.put (pk m.a m.b) (.lit (.int .i64 (M.length : Nat)))) (M ++ [m]) := by
  refine ⟨h.isMap.put _ _, fun a b fa fb => ?_, fun a b fa fb => ?_⟩
  · rw [rkOf_snoc hm]
    by_cases e : pk a b = pk m.a m.b
    · obtain ⟨rfl, rfl⟩ := pk_inj fa fb ha hb e
      rw [has_put_same h.isMap (show WideAt.IsKeyLit (pk m.a m.b) from trivial), if_pos ⟨rfl, rfl⟩]
      rfl
    · rw [has_put_other e, h.has a b fa fb, if_neg fun e2 => e (by rw [e2.1, e2.2])]
  · unfold rkInt
    rw [rkOf_snoc hm]
    by_cases e : pk a b = pk m.a m.b
    · obtain ⟨rfl, rfl⟩ := pk_inj fa fb ha hb e
      rw [atKey_put_same h.isMap (show WideAt.IsKeyLit (pk m.a m.b) from trivial), if_pos ⟨rfl, rfl⟩]
    · rw [atKey_put_other e, h.at_ a b fa fb, if_neg fun e2 => e (by rw [e2.1, e2.2])]
      rfl
abbrev ranksAt (w : World) (b n : Nat) (D : DataW Unit) : Prop := w.ownsMap Try.prog 49 (plainElem Try.prog 3) b n D
theorem rank_look {w : World} {b n : Nat} {D : DataW Unit} {M : List Mg} (h : ranksAt w b n D) (hR : RankMap D M) {x y : Int} (hx : fits64 x) (hy : fits64 y) :
    (Instr.lookup 56 (.map (some b)) (.agg #[.int .i64 x, .int .i64 y]) true).run Try.prog w = .ok (.tuple #[.int .i64 (rkInt M x y), .bool (rkOf M x y).isSome]) w := by
  obtain ⟨v, ps, hrun, hv⟩ := h.look_ok pairLaw Try.underlying56 (intZero _) (plainElem_int Try.underlying3 (by decide)) (keyOf_pairs hx hy)
  obtain ⟨c, rfl, hc, _⟩ := plainElem_int_inv Try.underlying3 hv
  rw [hR.has x y hx hy] at hrun
  rw [hR.at_ x y hx hy] at hc
  simp only [Prod.mk.injEq, DataW.lit.injEq, Lit.int.injEq, true_and] at hc
  rw [hrun, hc.1]

structure IsCoder (w : World) (b : Nat) (V : Voc) (A B : Option Addr) (ca cb bp : Nat) (D : DataW Unit) (cs : Array Value) : Prop where
  blk : Blk w b 59 cs
  c0 : cs[0]? = some (.slice A V.tok.length ca)
  c1 : cs[1]? = some (.slice B V.mer.length cb)
  cB : ∀ c, c < 256 → cs[2 + c]? = some (.int .i64 (c : Nat))
  cM : cs[258]? = some (.map (some bp))
  tok : RowsSee w A V.tok.length V.tok
  mer : MgSee w B V.mer.length V.mer
  map : ranksAt w bp V.mer.length D
  isR : RankMap D V.mer
  mlt : bp < w.heap.size
def Coder (w : World) (b : Nat) (V : Voc) : Prop := ∃ A B ca cb bp D cs, IsCoder w b V A B ca cb bp D cs
theorem IsCoder.below {w w' : World} {b : Nat} {V : Voc} {A B : Option Addr} {ca cb bp : Nat} {D : DataW Unit} {cs : Array Value} (h : IsCoder w b V A B ca cb bp D cs) (hb : Below w.heap.size w w') : IsCoder w' b V A B ca cb bp D cs where
  blk := h.blk.below hb h.blk.lt
  c0 := h.c0
  c1 := h.c1
  cB := h.cB
  cM := h.cM
  tok := h.tok.below hb
  mer := h.mer.below hb
  map := ownsMap_block h.map (hb.block _ h.mlt)
  isR := h.isR
  mlt := Nat.lt_of_lt_of_le h.mlt hb.size
theorem Coder.below {w w' : World} {b : Nat} {V : Voc} (h : Coder w b V) (hb : Below w.heap.size w w') : Coder w' b V := by
  obtain ⟨A, B, ca, cb, bp, D, cs, h⟩ := h
  exact ⟨A, B, ca, cb, bp, D, cs, h.below hb⟩

/-- A row of tokens, all of it new since w0. -/
structure IsRow (w0 w : World) (r b : Nat) (at_ before behind : List Int) (st : List (Nat × Nat)) (va vb vc vs : Value) : Prop where
  blk : Blk w r 65 #[at0 b, va, vb, vc, vs]
  new : w0.heap.size ≤ r
  below : Below w0.heap.size w0 w
  atR : w.ownsRow w0.heap.size 3 1 va at_.length (at_.map i64V)
  befR : w.ownsRow w0.heap.size 3 1 vb before.length (before.map i64V)
  behR : w.ownsRow w0.heap.size 3 1 vc behind.length (behind.map i64V)
  stR : w.ownsRow w0.heap.size 78 2 vs st.length (st.flatMap stV)
  nab : ∀ g, va.ownBlock = some g → vb.ownBlock ≠ some g
  nac : ∀ g, va.ownBlock = some g → vc.ownBlock ≠ some g
  nbc : ∀ g, vb.ownBlock = some g → vc.ownBlock ≠ some g
  fits : (∀ x ∈ at_, fits64 x) ∧ (∀ x ∈ before, fits64 x) ∧ ∀ x ∈ behind, fits64 x
  small : at_.length ≤ 1048576 ∧ before.length ≤ 1048576 ∧ behind.length ≤ 1048576 ∧ st.length ≤ 1048576
  stF : ∀ s ∈ st, s.1 ≤ 1048576 ∧ s.2 ≤ 1048576
def Row (w0 w : World) (r b : Nat) (at_ before behind : List Int) (st : List (Nat × Nat)) : Prop := ∃ va vb vc vs, IsRow w0 w r b at_ before behind st va vb vc vs
theorem IsRow.then {w0 w w' : World} {r b : Nat} {at_ before behind : List Int} {st : List (Nat × Nat)} {va vb vc vs : Value} (h : IsRow w0 w r b at_ before behind st va vb vc vs) (hb : Below w.heap.size w w') : IsRow w0 w' r b at_ before behind st va vb vc vs where
  blk := h.blk.below hb h.blk.lt
  new := h.new
  below := below_then h.below hb h.below.size
  atR := ownsRow_block h.atR fun g hg => hb.block g (h.atR.lt g hg).2
  befR := ownsRow_block h.befR fun g hg => hb.block g (h.befR.lt g hg).2
  behR := ownsRow_block h.behR fun g hg => hb.block g (h.behR.lt g hg).2
  stR := ownsRow_block h.stR fun g hg => hb.block g (h.stR.lt g hg).2
  nab := h.nab
  nac := h.nac
  nbc := h.nbc
  fits := h.fits
  small := h.small
  stF := h.stF
theorem Row.then {w0 w w' : World} {r b : Nat} {at_ before behind : List Int} {st : List (Nat × Nat)} (h : Row w0 w r b at_ before behind st) (hb : Below w.heap.size w w') : Row w0 w' r b at_ before behind st := by
  obtain ⟨va, vb, vc, vs, h⟩ := h
  exact ⟨va, vb, vc, vs, h.then hb⟩
theorem Row.below {w0 w : World} {r b : Nat} {at_ before behind : List Int} {st : List (Nat × Nat)} (h : Row w0 w r b at_ before behind st) : Below w0.heap.size w0 w := by
  obtain ⟨va, vb, vc, vs, h⟩ := h
  exact h.below
/-- An element of a row of integers of one's own. -/
theorem own_int_at {w : World} {base : Nat} {v : Value} {l : List Int} (h : w.ownsRow base 3 1 v l.length (l.map i64V)) {p : Nat} {x : Int} (hx : l[p]? = some x) : ∃ ad c, v = .slice (some ad) l.length c ∧ w.cell? (ad.add p) = some (.int .i64 x) ∧ l.length ≤ c := by
  obtain ⟨A, c, e, hc⟩ := own_cap h
  have hp := (List.getElem?_eq_some_iff.1 hx).1
  cases A with
  | none =>
    subst e
    rcases h.2 with ⟨h1, h2⟩ | ⟨g, cap, cur, h1, _⟩
    · omega
    · cases h1
  | some ad =>
    refine ⟨ad, c, e, ?_, hc⟩
    subst e
    exact (src_of_own h).cells ad rfl p (.int .i64 x) (by rw [List.getElem?_map, hx]; rfl)
inductive StepIs (M : List Mg) (at_ behind : List Int) : Int → Option Nat → Prop where
  | neg : StepIs M at_ behind (-1) none
  | stop (p : Nat) : behind[p]? = some (at_.length : Int) → StepIs M at_ behind p none
  | pair (p q : Nat) (a b : Int) : behind[p]? = some (q : Int) → q < at_.length → at_[p]? = some a → at_[q]? = some b → StepIs M at_ behind p (rkOf M a b)
def StepOut (w : World) (place : Int) (o : Option Nat) (e : Ending) (w' : World) : Prop :=
  ∃ x y : Int, e = .returned (.tuple #[.agg #[.int .i64 x, .int .i64 y], .bool o.isSome]) ∧ (∀ k, o = some k → x = k ∧ y = place) ∧ Below w.heap.size w w'
theorem stepCells : (Try.prog.info? 78).map (·.size) = some 2 := by kernel_rfl
end Go.Proofs.Ytimbimnbaoaboaa
namespace Go.Proofs.Ytimbimnbaoaboaa
open Go.RowKit Go.Maps Go.WideMaps
set_option linter.unusedSimpArgs false

set_option maxHeartbeats 4000000 in
set_option maxRecDepth 100000 in
theorem stepAt_any (w0 w : World) (r b : Nat) (V : Voc) (hC : Coder w b V) {at_ before behind : List Int} {st : List (Nat × Nat)} (hR : Row w0 w r b at_ before behind st) {place : Int} {o : Option Nat} (ho : StepIs V.mer at_ behind place o) :
    Calls Try.prog 37 #[at0 r, .int .i64 place] w (StepOut w place o) := by
  obtain ⟨A, B, ca, cb, bp, D, cs, hC⟩ := hC
  obtain ⟨va, vb, vc, vs, hR⟩ := hR
  have b1 : Below w.heap.size w (w.alloc (.cells #[.int .i64 0, .int .i64 0] 78)) := (Below.refl _ w).alloc (Nat.le_refl _) _
  obtain ⟨W, hW⟩ : ∃ W, W = w.alloc (.cells #[.int .i64 0, .int .i64 0] 78) := ⟨_, rfl⟩
  have hs : Blk W w.heap.size 78 #[.int .i64 0, .int .i64 0] := by rw [hW]; exact Blk.new _ _ _
  rw [← hW] at b1
  have HW := Lib.hid hW
  have HS := Lib.hid hs
  have HB1 := Lib.hid b1
  have hR1 := hR.then b1
  have hC1 := hC.below b1
  have g0 : ∀ q, (W.drewN q).cell? ⟨r, 0, none⟩ = some (at0 b) := fun q => by have := (hR1.blk.drewN q).cell 0; simpa using this
  have g1 : ∀ q, (W.drewN q).cell? ⟨r, 1, none⟩ = some va := fun q => by have := (hR1.blk.drewN q).cell 1; simpa using this
  have g3 : ∀ q, (W.drewN q).cell? ⟨r, 3, none⟩ = some vc := fun q => by have := (hR1.blk.drewN q).cell 3; simpa using this
  have g5 : ∀ q, (W.drewN q).cell? ⟨b, 258, none⟩ = some (.map (some bp)) := fun q => by have := (hC1.blk.drewN q).cell 258; rw [hC1.cM] at this; exact this
  have hMap := hC1.map
  have hIsR := hC1.isR
  have hfit := hR1.fits.1
  have hsm := hR1.small.1
  have hAt := hR1.atR
  have hBeh := hR1.behR
  have hfb := hR1.fits.2.2
  have hsb := hR1.small.2.2.1
  clear hC hR hR1 hC1 hW hs b1
  have hout : ∀ (n : Nat) (x y : Int), Below w.heap.size w ((W.drewN n).setCell ⟨w.heap.size, 0, none⟩ (.int .i64 x) |>.setCell ⟨w.heap.size, 1, none⟩ (.int .i64 y)) ∧ Blk ((W.drewN n).setCell ⟨w.heap.size, 0, none⟩ (.int .i64 x) |>.setCell ⟨w.heap.size, 1, none⟩ (.int .i64 y)) w.heap.size 78 #[.int .i64 x, .int .i64 y] := fun n x y => by
    refine ⟨((below_drewN HB1.out n).setCell (Nat.le_refl _) _).setCell (Nat.le_refl _) _, ?_⟩
    have := ((HS.out.drewN n).set_ 0 (.int .i64 x)).set_ 1 (.int .i64 y)
    simpa using this
  have HOUT := Lib.hid hout
  clear hout
  unfold at0 at g0 ⊢
  cases ho with
  | neg =>
    clear hMap hIsR hfit hsm hAt hBeh hfb hsb g0 g1 g3 g5
    have k0 : decide ((-1 : Int) < 0) = true := by decide
    have HK0 := Lib.hid k0
    go_enter Try.func37, Try.ntmps37
    go_wp2_with fail
    rw [← HW.out]
    clear k0
    go_quiet (fail)
    have e0 := (HS.out.drewN nq).cell 0
    have e1 := (HS.out.drewN nq).cell 1
    have z0 := (HS.out.drewN nq).frozen 0
    have z1 := (HS.out.drewN nq).frozen 1
    simp only [List.getElem?_toArray, List.getElem?_cons_zero, List.getElem?_cons_succ] at e0 e1
    go_wp2
    refine bodyPost_ret (results_cell_row_tmp rfl _ _ w.heap.size 78 #[.int .i64 0, .int .i64 0] (0, 0) _ rfl ?_ Try.underlying78 rfl stepCells) rfl ?_
    · exact (HOUT.out nq 0 0).2
    · exact ⟨0, 0, rfl, (fun k h => by cases h), (HOUT.out nq 0 0).1⟩
  | stop p hp =>
    obtain ⟨adc, cc, rfl, ec, hcc⟩ := own_int_at hBeh hp
    obtain ⟨A1, c1, rfl⟩ := own_slice hAt
    have hpl : p < behind.length := (List.getElem?_eq_some_iff.1 hp).1
    have l1 : ∀ q, (W.drewN q).cell? (adc.add p) = some (.int .i64 (at_.length : Int)) := fun q => ec
    obtain ⟨N, hN⟩ : ∃ N, N = at_.length := ⟨_, rfl⟩
    obtain ⟨M, hM⟩ : ∃ M, M = behind.length := ⟨_, rfl⟩
    rw [← hN] at l1 g1
    rw [← hM] at g3 hpl hsb
    clear hMap hIsR hfit hsm hAt hBeh hfb ec hp hN hM hcc
    have k0 : decide ((p : Int) < 0) = false := by simp
    have k1 : ((N : Int) == (N : Int)) = true := by simp
    have hp0 : (0 : Int) ≤ (p : Int) := by omega
    have hpM : (p : Int) < (M : Int) := by omega
    go_enter Try.func37, Try.ntmps37
    go_wp2_with fail
    rw [← HW.out]
    go_quiet (fail)
    have e0 := (HS.out.drewN nq).cell 0
    have e1 := (HS.out.drewN nq).cell 1
    have z0 := (HS.out.drewN nq).frozen 0
    have z1 := (HS.out.drewN nq).frozen 1
    simp only [List.getElem?_toArray, List.getElem?_cons_zero, List.getElem?_cons_succ] at e0 e1
    clear g0 g1 g3 g5 l1
    go_wp2
    refine bodyPost_ret (results_cell_row_tmp rfl _ _ w.heap.size 78 #[.int .i64 0, .int .i64 0] (0, 0) _ rfl ?_ Try.underlying78 rfl stepCells) rfl ?_
    · exact (HOUT.out nq 0 0).2
    · exact ⟨0, 0, rfl, (fun k h => by cases h), (HOUT.out nq 0 0).1⟩
  | pair p q x y hq hlt hx hy =>
    obtain ⟨adc, cc, rfl, ec, hcc⟩ := own_int_at hBeh hq
    obtain ⟨ada, ca', rfl, ea, hca⟩ := own_int_at hAt hx
    obtain ⟨ada2, ca2, e2, ea2, _⟩ := own_int_at hAt hy
    simp only [Value.slice.injEq, Option.some.injEq, true_and] at e2
    obtain ⟨rfl, rfl⟩ := e2
    have hpl : p < behind.length := (List.getElem?_eq_some_iff.1 hq).1
    have hpa : p < at_.length := (List.getElem?_eq_some_iff.1 hx).1
    have fx : fits64 x := hfit x (List.mem_of_getElem? hx)
    have fy : fits64 y := hfit y (List.mem_of_getElem? hy)
    have l1 : ∀ n, (W.drewN n).cell? (adc.add p) = some (.int .i64 (q : Int)) := fun n => ec
    have l2 : ∀ n, (W.drewN n).cell? (ada.add p) = some (.int .i64 x) := fun n => ea
    have l3 : ∀ n, (W.drewN n).cell? (ada.add q) = some (.int .i64 y) := fun n => ea2
    have hlk : ∀ n, (Instr.lookup 56 (.map (some bp)) (.agg #[.int .i64 x, .int .i64 y]) true).run Try.prog (W.drewN n) = .ok (.tuple #[.int .i64 (rkInt V.mer x y), .bool (rkOf V.mer x y).isSome]) (W.drewN n) := fun n => rank_look (w := W.drewN n) (ownsMap_block hMap rfl) hIsR fx fy
    have hri : ∀ k, rkOf V.mer x y = some k → rkInt V.mer x y = k := fun k e => by unfold rkInt; rw [e]
    have HRI := Lib.hid hri
    obtain ⟨O, hO⟩ : ∃ O, O = rkOf V.mer x y := ⟨_, rfl⟩
    obtain ⟨K, hK⟩ : ∃ K, K = rkInt V.mer x y := ⟨_, rfl⟩
    rw [← hO, ← hK] at HRI
    rw [← hO, ← hK] at hlk
    rw [← hO]
    obtain ⟨F, hF⟩ : ∃ F, F = O.isSome := ⟨_, rfl⟩
    rw [← hF] at hlk
    have HF := Lib.hid hF
    obtain ⟨N, hN⟩ : ∃ N, N = at_.length := ⟨_, rfl⟩
    obtain ⟨M, hM⟩ : ∃ M, M = behind.length := ⟨_, rfl⟩
    rw [← hN] at g1 hlt hsm hpa
    rw [← hM] at g3 hpl hsb
    clear hMap hIsR hfit hAt hBeh hfb ec ea ea2 hq hx hy hN hM hcc hca fx fy hri hO hK hF
    have k0 : decide ((p : Int) < 0) = false := by simp
    have k1 : ((q : Int) == (N : Int)) = false := by simp; omega
    have hp0 : (0 : Int) ≤ (p : Int) := by omega
    have hpM : (p : Int) < (M : Int) := by omega
    have hpN : (p : Int) < (N : Int) := by omega
    have hq0 : (0 : Int) ≤ (q : Int) := by omega
    have hqN : (q : Int) < (N : Int) := by omega
    go_enter Try.func37, Try.ntmps37
    go_wp2_with fail
    rw [← HW.out]
    go_quiet (fail)
    go_wp2_with fail
    obtain ⟨n1, hn1⟩ : ∃ n1, n1 = nq := ⟨_, rfl⟩
    subst hn1
    obtain ⟨W1, hW1⟩ : ∃ W1, W1 = W.drewN n1 := ⟨_, rfl⟩
    have g0' : ∀ n, (W1.drewN n).cell? ⟨r, 0, none⟩ = some (.pointer (some ⟨b, 0, none⟩)) := fun n => by rw [hW1]; exact g0 (n1 + n)
    have g1' : ∀ n, (W1.drewN n).cell? ⟨r, 1, none⟩ = some (.slice (some ada) N ca') := fun n => by rw [hW1]; exact g1 (n1 + n)
    have g3' : ∀ n, (W1.drewN n).cell? ⟨r, 3, none⟩ = some (.slice (some adc) M cc) := fun n => by rw [hW1]; exact g3 (n1 + n)
    have g5' : ∀ n, (W1.drewN n).cell? ⟨b, 258, none⟩ = some (.map (some bp)) := fun n => by rw [hW1]; exact g5 (n1 + n)
    have l1' : ∀ n, (W1.drewN n).cell? (adc.add p) = some (.int .i64 (q : Int)) := fun n => by rw [hW1]; exact l1 (n1 + n)
    have l2' : ∀ n, (W1.drewN n).cell? (ada.add p) = some (.int .i64 x) := fun n => by rw [hW1]; exact l2 (n1 + n)
    have l3' : ∀ n, (W1.drewN n).cell? (ada.add q) = some (.int .i64 y) := fun n => by rw [hW1]; exact l3 (n1 + n)
    have hlk' : ∀ n, (Instr.lookup 56 (.map (some bp)) (.agg #[.int .i64 x, .int .i64 y]) true).run Try.prog (W1.drewN n) = .ok (.tuple #[.int .i64 K, .bool F]) (W1.drewN n) := fun n => by
      have h := hlk (n1 + n)
      rw [← World.drewN_drewN, ← hW1] at h
      exact h
    clear g0 g1 g3 g5 l1 l2 l3 hlk
    rw [← hW1]
    have HW1 := Lib.hid hW1
    clear hW1
    go_quiet (fail)
    rw [HW1.out, World.drewN_drewN]
    have e0 := (HS.out.drewN (n1 + nq)).cell 0
    have e1 := (HS.out.drewN (n1 + nq)).cell 1
    have z0 := (HS.out.drewN (n1 + nq)).frozen 0
    have z1 := (HS.out.drewN (n1 + nq)).frozen 1
    simp only [List.getElem?_toArray, List.getElem?_cons_zero, List.getElem?_cons_succ] at e0 e1
    clear g0' g1' g3' g5' l1' l2' l3' hlk'
    go_wp2
    refine bodyPost_ret (results_cell_row_tmp rfl _ _ w.heap.size 78 #[.int .i64 K, .int .i64 p] (0, 0) _ rfl ?_ Try.underlying78 rfl stepCells) rfl ?_
    · exact (HOUT.out _ K p).2
    · exact ⟨K, p, by rw [← HF.out]; rfl, fun k h => ⟨HRI.out k h, rfl⟩, (HOUT.out _ K p).1⟩
end Go.Proofs.Ytimbimnbaoaboaa
