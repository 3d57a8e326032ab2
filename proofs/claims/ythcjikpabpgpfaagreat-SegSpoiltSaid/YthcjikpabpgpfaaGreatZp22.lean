import Derived.Test.YthcjikpabpgpfaaGreatZp0
import Derived.Test.YthcjikpabpgpfaaGreatZp19
import Derived.Test.YthcjikpabpgpfaaGreatZp5
import Derived.Test.YthcjikpabpgpfaaGreatZp2
import Derived.Test.YthcjikpabpgpfaaGreatZp3
import Derived.StillTailTactics
import Derived.Sort.Grow
import Derived.Shelf.SlSortCmp.Insertion
import Derived.Test.YthcjikpabpgpfaaGreatZp4
import Derived.Shelf.SlSorted.Search
import Derived.Shelf.SlSortCmp.QuietGrown
import Derived.Laws.IdiomCopy
import Derived.Lib.SliceRun
import Derived.Deep.RegionLaw
import Derived.Shelf.SlSortCmp.NoneTotal
import Derived.Lib.ConvBytes
import Derived.Deep.QuietTactic
import Derived.BigQuiet
set_option linter.unusedSimpArgs false
set_option maxHeartbeats 16000000
set_option maxRecDepth 100000
namespace Go.Proofs.YthcjikpabpgpfaaGreat
open Go.RowKit Go.Maps Go.WideMaps
theorem RowsSee.from_ {w : World} {A : Option Addr} {n c : Nat} {L : List Nm} (h : RowsSee w A n L) (hc : n ≤ c) (p : Nat) (hp : p ≤ n) : RowsSee w (cutAddr A p c) (n - p) (L.drop p) where
 len := by rw [List.length_drop, h.len]
 fit := Nat.le_trans (Nat.sub_le _ _) h.fit
 at_ := fun i x hx => by
  rw [List.getElem?_drop] at hx
  have hl := (List.getElem?_eq_some_iff.1 hx).1
  rw [h.len] at hl
  obtain ⟨ad, C, c', e1, e2, e3, e4⟩ := h.at_ (p + i) x hx
  have hcp : ¬ c = p := by omega
  refine ⟨ad.add p, C, c', by unfold cutAddr; rw [if_neg hcp, e1]; rfl, ?_, e3, e4⟩
  have : (ad.add p).add i = ad.add (p + i) := Go.Deep.add_add ad p i
  rw [this]
  exact e2
theorem rows_to8 (w : World) (A : Option Addr) (n c p : Nat) (h : p ≤ c) : (Instr.slice 27 (.slice A n c) none (some (.int .u8 p)) none).run Tryz.prog w = .ok (.slice A p c) w := by
 obtain ⟨i0, hi, hz0, hz1, hz2⟩ := info_parts rowInfo
 rw [run_slice_h (P := Tryz.prog) (w := w) 27 A n c Tryz.underlying27 .u8 p (by omega) (by omega)]
 have he : Tryz.prog.elem 27 = 24 := by kernel_rfl
 rw [he]
 have hs : (sizeOf 24).run Tryz.prog w = Result.ok i0.size w := by
  rw [run_sizeOf w hi]
  unfold Program.cellsOf
  rw [hi]
  rfl
 rw [hs]
 simp [Result.andThen, sliced, Addr.add]
theorem rows_from (w : World) (A : Option Addr) (n c p : Nat) (hp : p ≤ n) : (Instr.slice 27 (.slice A n c) (some (.int .i64 p)) none none).run Tryz.prog w = .ok (.slice (cutAddr A p c) (n - p) (c - p)) w := by
 obtain ⟨i0, hi, hz0, hz1, hz2⟩ := info_parts rowInfo
 have hs : (sizeOf (Tryz.prog.elem 27)).run Tryz.prog w = .ok 1 w := by
  rw [show Tryz.prog.elem 27 = 24 by kernel_rfl, run_sizeOf w hi]
  unfold Program.cellsOf
  rw [hi]
  simp [hz1]
 rw [run_slice_l (P := Tryz.prog) (w := w) 27 A n c Tryz.underlying27 .i64 p (by omega) (by omega), hs]
 simp [Result.andThen, sliced, cutAddr]
theorem ownRows_see {w : World} {base : Nat} {A : Option Addr} {n c : Nat} {svs : List Value} {L : List Nm} (h : w.ownsRow base 24 1 (.slice A n c) n svs) (hl : L.length = n) (h63 : n ≤ maxLen) (hv : ∀ (i : Nat) (sv : Value) (x : Nm), svs[i]? = some sv → L[i]? = some x → Holds1 w sv x) : RowsSee w A n L ∧ n ≤ c := by
 obtain ⟨A', c', e1, e2⟩ := own_cap h
 injection e1 with ea en ec
 subst ea ec
 refine ⟨⟨hl, h63, fun i x hx => ?_⟩, e2⟩
 have hsl : svs.length = n := by have := h.1; simpa using this
 have hi := (List.getElem?_eq_some_iff.1 hx).1
 have hs : svs[i]? = some (svs[i]'(by omega)) := List.getElem?_eq_getElem _
 obtain ⟨C, cc, h3, h4, h5⟩ := hv i _ x hs hx
 have hsrc := src_of_own h
 cases A with
 | none => have := hsrc.nil rfl; omega
 | some ad =>
  have := hsrc.cells ad rfl i _ hs
  rw [h3] at this
  exact ⟨ad, C, cc, rfl, this, h4, h5⟩
theorem mgCells_len (L : List Mg) : (L.flatMap mgCells).length = L.length * 3 := by
 induction L with
 | nil => rfl
 | cons a r ih => rw [List.flatMap_cons, List.length_append, ih, List.length_cons]; simp [mgCells]; omega
theorem mgCells_one (L : List Mg) : ∀ u ∈ L.flatMap mgCells, u.oneCell' = true := by
 intro u hu
 obtain ⟨p, _, hp⟩ := List.mem_flatMap.1 hu
 simp only [mgCells, List.mem_cons, List.not_mem_nil, or_false] at hp
 rcases hp with rfl | rfl | rfl <;> rfl
theorem MgSee.src {w : World} {B : Option Addr} {n : Nat} {M : List Mg} (h : MgSee w B n M) : SrcN w B n 3 (M.flatMap mgCells) where
 len := by rw [mgCells_len, h.len]
 cells := fun ad e q u hu => by
  obtain ⟨m, hm, hmu⟩ := flat_inv (s := 3) (by omega) (fun _ => rfl) M q u hu
  obtain ⟨ad', e1, c0, c1, c2⟩ := h.at_ (q / 3) m hm
  rw [e] at e1
  cases e1
  have e2 : q / 3 * 3 + q % 3 = q := by omega
  have h2 : q % 3 < 3 := Nat.mod_lt _ (by omega)
  have h3 : q % 3 = 0 ∨ q % 3 = 1 ∨ q % 3 = 2 := by omega
  rw [← e2]
  rcases h3 with h3 | h3 | h3 <;> rw [h3] at hmu ⊢ <;> simp [mgCells] at hmu <;> rw [← hmu]
  ·exact c0
  ·rw [add_pos' _ _ _ (by omega)]; exact c1
  ·rw [add_pos' _ _ _ (by omega)]; exact c2
 nil := fun e => by
  rcases Nat.eq_zero_or_pos n with h0 | h0
  ·exact h0
  ·obtain ⟨ad', e1, _⟩ := h.at_ 0 _ (List.getElem?_eq_getElem (by rw [h.len]; exact h0))
   rw [e] at e1
   cases e1
theorem MgSee.own {w : World} {base : Nat} {B : Option Addr} {n c : Nat} {M : List Mg} (h : w.ownsRow base 88 3 (.slice B n c) n (M.flatMap mgCells)) (hl : M.length = n) (h63 : n ≤ maxLen) (hf : ∀ m ∈ M, mgFits m) : MgSee w B n M ∧ n ≤ c := by
 have hc : n ≤ c := by
  rcases h.2 with ⟨h1, h0⟩ | ⟨g, cap, cur, h1, _, _, hc, _⟩
  ·omega
  ·injection h1 with _ _ h3
   omega
 refine ⟨⟨hl, h63, fun i m hi => ?_, fun m hm => hf m hm⟩, hc⟩
 have hil := (List.getElem?_eq_some_iff.1 hi).1
 cases B with
 | none =>
  rcases h.2 with ⟨h1, h0⟩ | ⟨g, cap, cur, h1, _⟩
  ·omega
  ·cases h1
 | some ad =>
  have hz : ad = ⟨ad.block, 0, none⟩ := by
   rcases h.2 with ⟨h1, _⟩ | ⟨g, cap, cur, h1, _⟩
   ·cases h1
   ·cases h1; rfl
  have hcs := fun j u (hj : (mgCells m)[j]? = some u) => h.cells (g := ad.block) rfl (i * 3 + j) u (flat_at (s := 3) (fun _ => rfl) M i j m u hi hj)
  have c0 := hcs 0 _ rfl
  have c1 := hcs 1 _ rfl
  have c2 := hcs 2 _ rfl
  rw [addr_add] at c0 c1 c2
  refine ⟨ad, rfl, ?_, ?_, ?_⟩
  ·rw [hz, addr_add]; exact c0
  ·rw [hz, addr_add]; exact c1
  ·rw [hz, addr_add]; exact c2
end Go.Proofs.YthcjikpabpgpfaaGreat
namespace Go.Proofs.YthcjikpabpgpfaaGreat
open Go.RowKit Go.Maps Go.WideMaps Go.Sort
def cmpI (x y : Int) : Int := if x < y then -1 else if y < x then 1 else 0
theorem isNaN_any (w : World) (x : Int) : Calls Tryz.prog 186 #[.int .i64 x] w fun e w' => e = .returned (.bool false) ∧ w' = w := by
 go_enter Tryz.func186, Tryz.ntmps186
 go_wp2
 go_ret
 exact ⟨rfl, rfl⟩
theorem compare_any (w : World) (x y : Int) : Calls Tryz.prog 156 #[.int .i64 x, .int .i64 y] w fun e w' => e = .returned (.int .i64 (cmpI x y)) ∧ w' = w := by
 unfold cmpI
 by_cases h1 : x < y
 ·rw [if_pos h1]
  go_enter Tryz.func156, Tryz.ntmps156
  go_wp2_with (go_at_call 186; refine (isNaN_any _ _).mono ?_; rintro e w' ⟨rfl, rfl⟩)
  go_ret
  exact ⟨rfl, rfl⟩
 ·by_cases h2 : y < x
  ·rw [if_neg h1, if_pos h2]
   go_enter Tryz.func156, Tryz.ntmps156
   go_wp2_with (go_at_call 186; refine (isNaN_any _ _).mono ?_; rintro e w' ⟨rfl, rfl⟩)
   go_ret
   exact ⟨rfl, rfl⟩
  ·rw [if_neg h1, if_neg h2]
   go_enter Tryz.func156, Tryz.ntmps156
   go_wp2_with (go_at_call 186; refine (isNaN_any _ _).mono ?_; rintro e w' ⟨rfl, rfl⟩)
   go_ret
   exact ⟨rfl, rfl⟩
theorem compare_is (w : World) (x y : Int) {r : Int} (h : cmpI x y = r) : Calls Tryz.prog 156 #[.int .i64 x, .int .i64 y] w fun e w' => e = .returned (.int .i64 r) ∧ w' = w := by
 have := compare_any w x y
 rw [h] at this
 exact this
def orI (x y : Int) : Int := if x = 0 then y else x
theorem or_any (w : World) (b : Nat) (x y : Int) (h0 : w.cell? ⟨b, 0, none⟩ = some (.int .i64 x)) (h1 : w.cell? ⟨b, 1, none⟩ = some (.int .i64 y)) :
  Calls Tryz.prog 155 #[.slice (some ⟨b, 0, none⟩) 2 2] w fun e w' => e = .returned (.int .i64 (orI x y)) ∧ w' = w := by
 unfold orI
 by_cases hx : x = 0
 ·by_cases hy : y = 0
  ·subst hx; subst hy
   go_enter Tryz.func155, Tryz.ntmps155
   go_wp2
   go_loop [8] (fun i => ∃ k : Nat, k ≤ 2 ∧ i = .int .i64 k) (fun i => 2 - (intOf i).toNat)
   case atStart => exact ⟨0, by omega, rfl⟩
   case round =>
    obtain ⟨k, hk, rfl⟩ := hrel
    obtain rfl | rfl | rfl : k = 0 ∨ k = 1 ∨ k = 2 := by omega
    ·go_wp2
     go_round
     case rel => exact ⟨1, by omega, rfl⟩
     case measure => simp [intOf]
    ·go_wp2
     go_round
     case rel => exact ⟨2, by omega, rfl⟩
     case measure => simp [intOf]
    ·go_wp2
     go_ret
     exact ⟨rfl, rfl⟩
  ·subst hx
   go_enter Tryz.func155, Tryz.ntmps155
   go_wp2
   go_loop [8] (fun i => ∃ k : Nat, k ≤ 1 ∧ i = .int .i64 k) (fun i => 2 - (intOf i).toNat)
   case atStart => exact ⟨0, by omega, rfl⟩
   case round =>
    obtain ⟨k, hk, rfl⟩ := hrel
    obtain rfl | rfl : k = 0 ∨ k = 1 := by omega
    ·go_wp2
     go_round
     case rel => exact ⟨1, by omega, rfl⟩
     case measure => simp [intOf]
    ·go_wp2
     go_ret
     exact ⟨rfl, rfl⟩
 ·rw [if_neg hx]
  go_enter Tryz.func155, Tryz.ntmps155
  go_wp2
  go_loop [8] (fun i => i = .int .i64 0) (fun i => 2 - (intOf i).toNat)
  case atStart => exact rfl
  case round =>
   obtain rfl := hrel
   go_wp2
   go_ret
   exact ⟨rfl, rfl⟩
theorem alloc3 (w : World) (a b c : Obj) : ((w.alloc a).alloc b).drew.alloc c = grow (w.drewN 1) (#[a] ++ #[b] ++ #[c]) := by
 show ((w.drew.alloc a).alloc b).alloc c = _
 rw [alloc_eq_grow, alloc_eq_grow, alloc_eq_grow, grow_grow, grow_grow]
 rfl
def stV (s : Nat × Nat) : List Value := [.int .i64 s.1, .int .i64 s.2]
def dwn (s t : Nat × Nat) : Int := orI (cmpI t.1 s.1) (cmpI t.2 s.2)
theorem dwn_neg (s t : Nat × Nat) : dwn s t < 0 ↔ gtS s t := by
 unfold dwn orI cmpI gtS
 split <;> split at * <;> (try split at *) <;> (try split) <;> (try split) <;> omega
theorem dwn_fits (s t : Nat × Nat) : -1 ≤ dwn s t ∧ dwn s t ≤ 1 := by
 unfold dwn orI cmpI
 split <;> split at * <;> (try split at *) <;> (try split) <;> (try split) <;> omega
theorem downwards_any (w : World) (s t : Nat × Nat) :
  Calls Tryz.prog 115 #[.agg #[.int .i64 s.1, .int .i64 s.2], .agg #[.int .i64 t.1, .int .i64 t.2]] w fun e w' => e = .returned (.int .i64 (dwn s t)) ∧ ∃ q os, w' = grow (w.drewN q) os := by
 obtain ⟨a, b⟩ := s
 obtain ⟨c, d⟩ := t
 unfold dwn
 obtain ⟨x, hx⟩ : ∃ x, x = cmpI (c : Int) (a : Int) := ⟨_, rfl⟩
 obtain ⟨y, hy⟩ : ∃ y, y = cmpI (d : Int) (b : Int) := ⟨_, rfl⟩
 simp only [← hx, ← hy]
 have HX := Lib.hid hx
 have HY := Lib.hid hy
 clear hx hy
 go_enter Tryz.func115, Tryz.ntmps115
 go_wp2_with fail
 obtain ⟨W, hW⟩ : ∃ W, W = (w.alloc (.cells #[.int .i64 a, .int .i64 b] 201)).alloc (.cells #[.int .i64 c, .int .i64 d] 201) := ⟨_, rfl⟩
 rw [← hW]
 have B1 : Blk W w.heap.size 201 #[.int .i64 a, .int .i64 b] := by rw [hW]; exact (Blk.new w _ _).alloc _
 have B2 : Blk W (w.heap.size + 1) 201 #[.int .i64 c, .int .i64 d] := by
  rw [hW]
  have := Blk.new (w.alloc (.cells #[.int .i64 a, .int .i64 b] 201)) 201 #[.int .i64 c, .int .i64 d]
  simpa using this
 have g1 := B1.cell 0
 have g2 := B1.cell 1
 have g3 := B2.cell 0
 have g4 := B2.cell 1
 simp only [lz0, lz1, lz2] at g1 g2 g3 g4
 have HW := Lib.hid hW
 clear hW B1 B2
 refine wp_region_still_tail 10 (by kernel_rfl) (by kernel_rfl) ?_
 simp only [List.take_succ_cons, List.take_zero, List.drop_succ_cons, List.drop_zero]
 repeat still_step
 still_call (compare_is _ _ _ HX.out.symm)
 repeat still_step
 still_call (compare_is _ _ _ HY.out.symm)
 repeat still_step
 refine wpStill_nil ?_
 change wpList _ _ _ _ _ W.drew
 have h0 : ((W.drew).alloc (.cells #[.int .i64 x, .int .i64 y] 3)).cell? ⟨W.heap.size, 0, none⟩ = some (.int .i64 x) := by
  have := (Blk.new W.drew 3 #[.int .i64 x, .int .i64 y]).cell 0
  simpa using this
 have h1 : ((W.drew).alloc (.cells #[.int .i64 x, .int .i64 y] 3)).cell? ⟨W.heap.size, 1, none⟩ = some (.int .i64 y) := by
  have := (Blk.new W.drew 3 #[.int .i64 x, .int .i64 y]).cell 1
  simpa using this
 have H0 := Lib.hid h0
 have H1 := Lib.hid h1
 clear h0 h1 g1 g2 g3 g4
 go_wp2_with (go_at_call 155; refine (or_any _ _ _ _ H0.out H1.out).mono ?_; rintro e w' ⟨rfl, rfl⟩)
 go_ret
 exact ⟨rfl, 1, _, by rw [HW.out]; exact alloc3 w _ _ _⟩
end Go.Proofs.YthcjikpabpgpfaaGreat
namespace Go.Proofs.YthcjikpabpgpfaaGreat
open Go.RowKit Go.Maps Go.WideMaps
def rkInt (M : List Mg) (a b : Int) : Int := match rkOf M a b with | some k => (k : Int) | none => 0
theorem rkOf_snoc {M : List Mg} {m : Mg} (h : mergedB M m.a m.b = false) (a b : Int) : rkOf (M ++ [m]) a b = if m.a = a ∧ m.b = b then some M.length else rkOf M a b := by
 unfold rkOf
 rw [List.findIdx?_append]
 split
 ·rename_i e
  obtain ⟨rfl, rfl⟩ := e
  have := rkOf_none.2 h
  unfold rkOf at this
  rw [this]
  simp
 ·rename_i e
  have : ([m].findIdx? fun m => decide (m.a = a ∧ m.b = b)) = none := by simp [e]
  rw [this]
  cases M.findIdx? fun m => decide (m.a = a ∧ m.b = b) <;> rfl
structure RankMap (D : DataW Unit) (M : List Mg) : Prop where
 isMap : IsMap D
 has : ∀ a b, fits64 a → fits64 b → Maps.has D (pk a b) = (rkOf M a b).isSome
 at_ : ∀ a b, fits64 a → fits64 b → D.atKey (pk a b) (.lit (.int .i64 0)) = .lit (.int .i64 (rkInt M a b))
theorem RankMap.nil : RankMap (.map []) [] := ⟨isMap_empty, fun _ _ _ _ => rfl, fun _ _ _ _ => rfl⟩
theorem RankMap.put {D : DataW Unit} {M : List Mg} (h : RankMap D M) {m : Mg} (hm : mergedB M m.a m.b = false) (ha : fits64 m.a) (hb : fits64 m.b) : RankMap (D.put (pk m.a m.b) (.lit (.int .i64 (M.length : Nat)))) (M ++ [m]) := by
 refine ⟨h.isMap.put _ _, fun a b fa fb => ?_, fun a b fa fb => ?_⟩
 ·rw [rkOf_snoc hm]
  by_cases e : pk a b = pk m.a m.b
  ·obtain ⟨rfl, rfl⟩ := pk_inj fa fb ha hb e
   rw [has_put_same h.isMap (show WideAt.IsKeyLit (pk m.a m.b) from trivial), if_pos ⟨rfl, rfl⟩]
   rfl
  ·rw [has_put_other e, h.has a b fa fb, if_neg fun e2 => e (by rw [e2.1, e2.2])]
 ·unfold rkInt
  rw [rkOf_snoc hm]
  by_cases e : pk a b = pk m.a m.b
  ·obtain ⟨rfl, rfl⟩ := pk_inj fa fb ha hb e
   rw [atKey_put_same h.isMap (show WideAt.IsKeyLit (pk m.a m.b) from trivial), if_pos ⟨rfl, rfl⟩]
  ·rw [atKey_put_other e, h.at_ a b fa fb, if_neg fun e2 => e (by rw [e2.1, e2.2])]
   rfl
abbrev ranksAt (w : World) (b n : Nat) (D : DataW Unit) : Prop := w.ownsMap Tryz.prog 73 (plainElem Tryz.prog 3) b n D
theorem rank_look {w : World} {b n : Nat} {D : DataW Unit} {M : List Mg} (h : ranksAt w b n D) (hR : RankMap D M) {x y : Int} (hx : fits64 x) (hy : fits64 y) :
  (Instr.lookup 89 (.map (some b)) (.agg #[.int .i64 x, .int .i64 y]) true).run Tryz.prog w = .ok (.tuple #[.int .i64 (rkInt M x y), .bool (rkOf M x y).isSome]) w := by
 obtain ⟨v, ps, hrun, hv⟩ := h.look_ok pairLaw Tryz.underlying89 (intZero _) (plainElem_int Tryz.underlying3 (by decide)) (keyOf_pairs hx hy)
 obtain ⟨c, rfl, hc, _⟩ := plainElem_int_inv Tryz.underlying3 hv
 rw [hR.has x y hx hy] at hrun
 rw [hR.at_ x y hx hy] at hc
 simp only [Prod.mk.injEq, DataW.lit.injEq, Lit.int.injEq, true_and] at hc
 rw [hrun, hc.1]
structure IsCoder (w : World) (b : Nat) (V : Voc) (A B : Option Addr) (ca cb bp : Nat) (D : DataW Unit) (cs : Array Value) : Prop where
 blk : Blk w b 92 cs
 c0 : cs[0]? = some (.slice A V.tok.length ca)
 c1 : cs[1]? = some (.slice B V.mer.length cb)
 cB : ∀ c, c < 256 → cs[2 + c]? = some (.int .i64 (c : Nat))
 cM : cs[258]? = some (.map (some bp))
 tok : RowsSee w A V.tok.length V.tok
 mer : MgSee w B V.mer.length V.mer
 map : ranksAt w bp V.mer.length D
 isR : RankMap D V.mer
 mlt : bp < w.heap.size
def Coder (w : World) (b : Nat) (V : Voc) : Prop := ∃ A B ca cb bp D cs, IsCoder w b V A B ca cb bp D cs
theorem IsCoder.below {w w' : World} {b : Nat} {V : Voc} {A B : Option Addr} {ca cb bp : Nat} {D : DataW Unit} {cs : Array Value} (h : IsCoder w b V A B ca cb bp D cs) (hb : Below w.heap.size w w') : IsCoder w' b V A B ca cb bp D cs where
 blk := h.blk.below hb h.blk.lt
 c0 := h.c0
 c1 := h.c1
 cB := h.cB
 cM := h.cM
 tok := h.tok.below hb
 mer := h.mer.below hb
 map := ownsMap_block h.map (hb.block _ h.mlt)
 isR := h.isR
 mlt := Nat.lt_of_lt_of_le h.mlt hb.size
theorem Coder.below {w w' : World} {b : Nat} {V : Voc} (h : Coder w b V) (hb : Below w.heap.size w w') : Coder w' b V := by
 obtain ⟨A, B, ca, cb, bp, D, cs, h⟩ := h
 exact ⟨A, B, ca, cb, bp, D, cs, h.below hb⟩
structure IsRow (w0 w : World) (r b : Nat) (at_ before behind : List Int) (st : List (Nat × Nat)) (va vb vc vs : Value) : Prop where
 blk : Blk w r 130 #[at0 b, va, vb, vc, vs]
 new : w0.heap.size ≤ r
 below : Below w0.heap.size w0 w
 atR : w.ownsRow w0.heap.size 3 1 va at_.length (at_.map i64V)
 befR : w.ownsRow w0.heap.size 3 1 vb before.length (before.map i64V)
 behR : w.ownsRow w0.heap.size 3 1 vc behind.length (behind.map i64V)
 stR : w.ownsRow w0.heap.size 201 2 vs st.length (st.flatMap stV)
 nab : ∀ g, va.ownBlock = some g → vb.ownBlock ≠ some g
 nac : ∀ g, va.ownBlock = some g → vc.ownBlock ≠ some g
 nbc : ∀ g, vb.ownBlock = some g → vc.ownBlock ≠ some g
 fits : (∀ x ∈ at_, fits64 x) ∧ (∀ x ∈ before, fits64 x) ∧ ∀ x ∈ behind, fits64 x
 small : at_.length ≤ 1048576 ∧ before.length ≤ 1048576 ∧ behind.length ≤ 1048576 ∧ st.length ≤ 1048576
 stF : ∀ s ∈ st, s.1 ≤ 1048576 ∧ s.2 ≤ 1048576
def Row (w0 w : World) (r b : Nat) (at_ before behind : List Int) (st : List (Nat × Nat)) : Prop := ∃ va vb vc vs, IsRow w0 w r b at_ before behind st va vb vc vs
theorem IsRow.then {w0 w w' : World} {r b : Nat} {at_ before behind : List Int} {st : List (Nat × Nat)} {va vb vc vs : Value} (h : IsRow w0 w r b at_ before behind st va vb vc vs) (hb : Below w.heap.size w w') : IsRow w0 w' r b at_ before behind st va vb vc vs where
 blk := h.blk.below hb h.blk.lt
 new := h.new
 below := below_then h.below hb h.below.size
 atR := ownsRow_block h.atR fun g hg => hb.block g (h.atR.lt g hg).2
 befR := ownsRow_block h.befR fun g hg => hb.block g (h.befR.lt g hg).2
 behR := ownsRow_block h.behR fun g hg => hb.block g (h.behR.lt g hg).2
 stR := ownsRow_block h.stR fun g hg => hb.block g (h.stR.lt g hg).2
 nab := h.nab
 nac := h.nac
 nbc := h.nbc
 fits := h.fits
 small := h.small
 stF := h.stF
inductive StepIs (M : List Mg) (at_ behind : List Int) : Int → Option Nat → Prop where
 | neg : StepIs M at_ behind (-1) none
 | stop (p : Nat) : behind[p]? = some (at_.length : Int) → StepIs M at_ behind p none
 | pair (p q : Nat) (a b : Int) : behind[p]? = some (q : Int) → q < at_.length → at_[p]? = some a → at_[q]? = some b → StepIs M at_ behind p (rkOf M a b)
def StepOut (w : World) (place : Int) (o : Option Nat) (e : Ending) (w' : World) : Prop :=
 ∃ x y : Int, e = .returned (.tuple #[.agg #[.int .i64 x, .int .i64 y], .bool o.isSome]) ∧ (∀ k, o = some k → x = k ∧ y = place) ∧ Below w.heap.size w w'
theorem stepCells : (Tryz.prog.info? 201).map (·.size) = some 2 := by kernel_rfl
theorem stepAt_any (w0 w : World) (r b : Nat) (V : Voc) (hC : Coder w b V) {at_ before behind : List Int} {st : List (Nat × Nat)} (hR : Row w0 w r b at_ before behind st) {place : Int} {o : Option Nat} (ho : StepIs V.mer at_ behind place o) :
  Calls Tryz.prog 113 #[at0 r, .int .i64 place] w (StepOut w place o) := by
 obtain ⟨A, B, ca, cb, bp, D, cs, hC⟩ := hC
 obtain ⟨va, vb, vc, vs, hR⟩ := hR
 have b1 : Below w.heap.size w (w.alloc (.cells #[.int .i64 0, .int .i64 0] 201)) := (Below.refl _ w).alloc (Nat.le_refl _) _
 obtain ⟨W, hW⟩ : ∃ W, W = w.alloc (.cells #[.int .i64 0, .int .i64 0] 201) := ⟨_, rfl⟩
 have hs : Blk W w.heap.size 201 #[.int .i64 0, .int .i64 0] := by rw [hW]; exact Blk.new _ _ _
 rw [← hW] at b1
 have HW := Lib.hid hW
 have HS := Lib.hid hs
 have HB1 := Lib.hid b1
 have hR1 := hR.then b1
 have hC1 := hC.below b1
 have g0 : ∀ q, (W.drewN q).cell? ⟨r, 0, none⟩ = some (at0 b) := fun q => by have := (hR1.blk.drewN q).cell 0; simpa using this
 have g1 : ∀ q, (W.drewN q).cell? ⟨r, 1, none⟩ = some va := fun q => by have := (hR1.blk.drewN q).cell 1; simpa using this
 have g3 : ∀ q, (W.drewN q).cell? ⟨r, 3, none⟩ = some vc := fun q => by have := (hR1.blk.drewN q).cell 3; simpa using this
 have g5 : ∀ q, (W.drewN q).cell? ⟨b, 258, none⟩ = some (.map (some bp)) := fun q => by have := (hC1.blk.drewN q).cell 258; rw [hC1.cM] at this; exact this
 have hMap := hC1.map
 have hIsR := hC1.isR
 have hfit := hR1.fits.1
 have hsm := hR1.small.1
 have hAt := hR1.atR
 have hBeh := hR1.behR
 have hfb := hR1.fits.2.2
 have hsb := hR1.small.2.2.1
 clear hC hR hR1 hC1 hW hs b1
 have hout : ∀ (n : Nat) (x y : Int), Below w.heap.size w ((W.drewN n).setCell ⟨w.heap.size, 0, none⟩ (.int .i64 x) |>.setCell ⟨w.heap.size, 1, none⟩ (.int .i64 y)) ∧ Blk ((W.drewN n).setCell ⟨w.heap.size, 0, none⟩ (.int .i64 x) |>.setCell ⟨w.heap.size, 1, none⟩ (.int .i64 y)) w.heap.size 201 #[.int .i64 x, .int .i64 y] := fun n x y => by
  refine ⟨((below_drewN HB1.out n).setCell (Nat.le_refl _) _).setCell (Nat.le_refl _) _, ?_⟩
  have := ((HS.out.drewN n).set_ 0 (.int .i64 x)).set_ 1 (.int .i64 y)
  simpa using this
 have HOUT := Lib.hid hout
 clear hout
 unfold at0 at g0 ⊢
 cases ho with
 | neg =>
  clear hMap hIsR hfit hsm hAt hBeh hfb hsb g0 g1 g3 g5
  have k0 : decide ((-1 : Int) < 0) = true := by decide
  have HK0 := Lib.hid k0
  go_enter Tryz.func113, Tryz.ntmps113
  go_wp2_with fail
  rw [← HW.out]
  clear k0
  go_quiet (fail)
  have e0 := (HS.out.drewN nq).cell 0
  have e1 := (HS.out.drewN nq).cell 1
  have z0 := (HS.out.drewN nq).frozen 0
  have z1 := (HS.out.drewN nq).frozen 1
  simp only [lz0, lz1, lz2] at e0 e1
  go_wp2
  refine bodyPost_ret (results_cell_row_tmp rfl _ _ w.heap.size 201 #[.int .i64 0, .int .i64 0] (0, 0) _ rfl ?_ Tryz.underlying201 rfl stepCells) rfl ?_
  ·exact (HOUT.out nq 0 0).2
  ·exact ⟨0, 0, rfl, (fun k h => by cases h), (HOUT.out nq 0 0).1⟩
 | stop p hp =>
  obtain ⟨adc, cc, rfl, ec, hcc⟩ := own_int_at hBeh hp
  obtain ⟨A1, c1, rfl⟩ := own_slice hAt
  have hpl : p < behind.length := (List.getElem?_eq_some_iff.1 hp).1
  have l1 : ∀ q, (W.drewN q).cell? (adc.add p) = some (.int .i64 (at_.length : Int)) := fun q => ec
  obtain ⟨N, hN⟩ : ∃ N, N = at_.length := ⟨_, rfl⟩
  obtain ⟨M, hM⟩ : ∃ M, M = behind.length := ⟨_, rfl⟩
  rw [← hN] at l1 g1
  rw [← hM] at g3 hpl hsb
  clear hMap hIsR hfit hsm hAt hBeh hfb ec hp hN hM hcc
  have k0 : decide ((p : Int) < 0) = false := by simp
  have k1 : ((N : Int) == (N : Int)) = true := by simp
  have hp0 : (0 : Int) ≤ (p : Int) := by omega
  have hpM : (p : Int) < (M : Int) := by omega
  go_enter Tryz.func113, Tryz.ntmps113
  go_wp2_with fail
  rw [← HW.out]
  go_quiet (fail)
  have e0 := (HS.out.drewN nq).cell 0
  have e1 := (HS.out.drewN nq).cell 1
  have z0 := (HS.out.drewN nq).frozen 0
  have z1 := (HS.out.drewN nq).frozen 1
  simp only [lz0, lz1, lz2] at e0 e1
  clear g0 g1 g3 g5 l1
  go_wp2
  refine bodyPost_ret (results_cell_row_tmp rfl _ _ w.heap.size 201 #[.int .i64 0, .int .i64 0] (0, 0) _ rfl ?_ Tryz.underlying201 rfl stepCells) rfl ?_
  ·exact (HOUT.out nq 0 0).2
  ·exact ⟨0, 0, rfl, (fun k h => by cases h), (HOUT.out nq 0 0).1⟩
 | pair p q x y hq hlt hx hy =>
  obtain ⟨adc, cc, rfl, ec, hcc⟩ := own_int_at hBeh hq
  obtain ⟨ada, ca', rfl, ea, hca⟩ := own_int_at hAt hx
  obtain ⟨ada2, ca2, e2, ea2, _⟩ := own_int_at hAt hy
  simp only [Value.slice.injEq, Option.some.injEq, true_and] at e2
  obtain ⟨rfl, rfl⟩ := e2
  have hpl : p < behind.length := (List.getElem?_eq_some_iff.1 hq).1
  have hpa : p < at_.length := (List.getElem?_eq_some_iff.1 hx).1
  have fx : fits64 x := hfit x (List.mem_of_getElem? hx)
  have fy : fits64 y := hfit y (List.mem_of_getElem? hy)
  have l1 : ∀ n, (W.drewN n).cell? (adc.add p) = some (.int .i64 (q : Int)) := fun n => ec
  have l2 : ∀ n, (W.drewN n).cell? (ada.add p) = some (.int .i64 x) := fun n => ea
  have l3 : ∀ n, (W.drewN n).cell? (ada.add q) = some (.int .i64 y) := fun n => ea2
  have hlk : ∀ n, (Instr.lookup 89 (.map (some bp)) (.agg #[.int .i64 x, .int .i64 y]) true).run Tryz.prog (W.drewN n) = .ok (.tuple #[.int .i64 (rkInt V.mer x y), .bool (rkOf V.mer x y).isSome]) (W.drewN n) := fun n => rank_look (w := W.drewN n) (ownsMap_block hMap rfl) hIsR fx fy
  have hri : ∀ k, rkOf V.mer x y = some k → rkInt V.mer x y = k := fun k e => by unfold rkInt; rw [e]
  have HRI := Lib.hid hri
  obtain ⟨O, hO⟩ : ∃ O, O = rkOf V.mer x y := ⟨_, rfl⟩
  obtain ⟨K, hK⟩ : ∃ K, K = rkInt V.mer x y := ⟨_, rfl⟩
  rw [← hO, ← hK] at HRI
  rw [← hO, ← hK] at hlk
  rw [← hO]
  obtain ⟨F, hF⟩ : ∃ F, F = O.isSome := ⟨_, rfl⟩
  rw [← hF] at hlk
  have HF := Lib.hid hF
  obtain ⟨N, hN⟩ : ∃ N, N = at_.length := ⟨_, rfl⟩
  obtain ⟨M, hM⟩ : ∃ M, M = behind.length := ⟨_, rfl⟩
  rw [← hN] at g1 hlt hsm hpa
  rw [← hM] at g3 hpl hsb
  clear hMap hIsR hfit hAt hBeh hfb ec ea ea2 hq hx hy hN hM hcc hca fx fy hri hO hK hF
  have k0 : decide ((p : Int) < 0) = false := by simp
  have k1 : ((q : Int) == (N : Int)) = false := by simp; omega
  have hp0 : (0 : Int) ≤ (p : Int) := by omega
  have hpM : (p : Int) < (M : Int) := by omega
  have hpN : (p : Int) < (N : Int) := by omega
  have hq0 : (0 : Int) ≤ (q : Int) := by omega
  have hqN : (q : Int) < (N : Int) := by omega
  go_enter Tryz.func113, Tryz.ntmps113
  go_wp2_with fail
  rw [← HW.out]
  go_quiet (fail)
  go_wp2_with fail
  obtain ⟨n1, hn1⟩ : ∃ n1, n1 = nq := ⟨_, rfl⟩
  subst hn1
  obtain ⟨W1, hW1⟩ : ∃ W1, W1 = W.drewN n1 := ⟨_, rfl⟩
  have g0' : ∀ n, (W1.drewN n).cell? ⟨r, 0, none⟩ = some (.pointer (some ⟨b, 0, none⟩)) := fun n => by rw [hW1]; exact g0 (n1 + n)
  have g1' : ∀ n, (W1.drewN n).cell? ⟨r, 1, none⟩ = some (.slice (some ada) N ca') := fun n => by rw [hW1]; exact g1 (n1 + n)
  have g3' : ∀ n, (W1.drewN n).cell? ⟨r, 3, none⟩ = some (.slice (some adc) M cc) := fun n => by rw [hW1]; exact g3 (n1 + n)
  have g5' : ∀ n, (W1.drewN n).cell? ⟨b, 258, none⟩ = some (.map (some bp)) := fun n => by rw [hW1]; exact g5 (n1 + n)
  have l1' : ∀ n, (W1.drewN n).cell? (adc.add p) = some (.int .i64 (q : Int)) := fun n => by rw [hW1]; exact l1 (n1 + n)
  have l2' : ∀ n, (W1.drewN n).cell? (ada.add p) = some (.int .i64 x) := fun n => by rw [hW1]; exact l2 (n1 + n)
  have l3' : ∀ n, (W1.drewN n).cell? (ada.add q) = some (.int .i64 y) := fun n => by rw [hW1]; exact l3 (n1 + n)
  have hlk' : ∀ n, (Instr.lookup 89 (.map (some bp)) (.agg #[.int .i64 x, .int .i64 y]) true).run Tryz.prog (W1.drewN n) = .ok (.tuple #[.int .i64 K, .bool F]) (W1.drewN n) := fun n => by
   have h := hlk (n1 + n)
   rw [← World.drewN_drewN, ← hW1] at h
   exact h
  clear g0 g1 g3 g5 l1 l2 l3 hlk
  rw [← hW1]
  have HW1 := Lib.hid hW1
  clear hW1
  go_quiet (fail)
  rw [HW1.out, World.drewN_drewN]
  have e0 := (HS.out.drewN (n1 + nq)).cell 0
  have e1 := (HS.out.drewN (n1 + nq)).cell 1
  have z0 := (HS.out.drewN (n1 + nq)).frozen 0
  have z1 := (HS.out.drewN (n1 + nq)).frozen 1
  simp only [lz0, lz1, lz2] at e0 e1
  clear g0' g1' g3' g5' l1' l2' l3' hlk'
  go_wp2
  refine bodyPost_ret (results_cell_row_tmp rfl _ _ w.heap.size 201 #[.int .i64 K, .int .i64 p] (0, 0) _ rfl ?_ Tryz.underlying201 rfl stepCells) rfl ?_
  ·exact (HOUT.out _ K p).2
  ·exact ⟨K, p, by rw [← HF.out]; rfl, fun k h => ⟨HRI.out k h, rfl⟩, (HOUT.out _ K p).1⟩
end Go.Proofs.YthcjikpabpgpfaaGreat
namespace Go.Proofs.YthcjikpabpgpfaaGreat
open Go.RowKit Go.Maps Go.WideMaps Go.Sort
theorem own_step_at {w : World} {base : Nat} {v : Value} {st : List (Nat × Nat)} (h : w.ownsRow base 201 2 v st.length (st.flatMap stV)) {i : Nat} {x : Nat × Nat} (hx : st[i]? = some x) :
  ∃ ad c, v = .slice (some ad) st.length c ∧ st.length ≤ c ∧ w.cell? (ad.add (i * 2)) = some (.int .i64 x.1) ∧ w.cell? ⟨(ad.add (i * 2)).block, (ad.add (i * 2)).off + 1, none⟩ = some (.int .i64 x.2) := by
 have hp := (List.getElem?_eq_some_iff.1 hx).1
 have hh := h.2
 rcases hh with ⟨h1, h2⟩ | ⟨g, cap, cur, rfl, h1, h2, h3, h4, h5, h6⟩
 ·omega
 ·refine ⟨⟨g, 0, none⟩, cap, rfl, h3, ?_, ?_⟩
  ·rw [addr_add]
   have := h.cells (g := g) rfl (i * 2) (.int .i64 x.1) (flat_at (f := stV) (s := 2) (fun _ => rfl) st i 0 x _ hx rfl)
   rw [addr_add] at this
   exact this
  ·rw [addr_add]
   have := h.cells (g := g) rfl (i * 2 + 1) (.int .i64 x.2) (flat_at (f := stV) (s := 2) (fun _ => rfl) st i 1 x _ hx rfl)
   rw [addr_add] at this
   exact this
theorem grow_below (w : World) (os : Array Obj) : Below w.heap.size w (grow w os) := ⟨rfl, rfl, rfl, by simp, fun k hk => heap_grow_old w os hk⟩
theorem find1_any (W : World) (r pb sb : Nat) (s x : Nat × Nat) (ad : Addr) (n c i : Nat) (hi : i < n)
  (h1 : W.cell? ⟨pb, 0, none⟩ = some (at0 r)) (h2 : W.cell? ⟨r, 4, none⟩ = some (.slice (some ad) n c)) (h3 : W.cell? ⟨sb, 0, none⟩ = some (.int .i64 s.1)) (h4 : W.cell? ⟨sb, 1, none⟩ = some (.int .i64 s.2))
  (h5 : W.cell? (ad.add (i * 2)) = some (.int .i64 x.1)) (h6 : W.cell? ⟨(ad.add (i * 2)).block, (ad.add (i * 2)).off + 1, none⟩ = some (.int .i64 x.2)) :
  Calls Tryz.prog 188 #[.int .i64 i, .pointer (some ⟨pb, 0, none⟩), .pointer (some ⟨sb, 0, none⟩)] W fun e w' => e = .returned (.bool (decide (¬ gtS x s))) ∧ ∃ q os, w' = grow (W.drewN q) os := by
 have mixed : Tryz.prog.follows .mixedOrders = true := by kernel_rfl
 obtain ⟨s1, s2⟩ := s
 obtain ⟨x1, x2⟩ := x
 unfold at0 at h1
 have k1 := fun n os => cell_grown (World.block_lt_of_cell? W _ h1) h1 n os
 have k2 := fun n os => cell_grown (World.block_lt_of_cell? W _ h2) h2 n os
 have k3 := fun n os => cell_grown (World.block_lt_of_cell? W _ h3) h3 n os
 have k4 := fun n os => cell_grown (World.block_lt_of_cell? W _ h4) h4 n os
 have k5 := fun n os => cell_grown (World.block_lt_of_cell? W _ h5) h5 n os
 have k6 := fun n os => cell_grown (World.block_lt_of_cell? W _ h6) h6 n os
 have hb := dwn_neg (x1, x2) (s1, s2)
 have hf := dwn_fits (x1, x2) (s1, s2)
 have hd := fun (W : World) => downwards_any W (x1, x2) (s1, s2)
 obtain ⟨d, hdd⟩ : ∃ d, d = dwn (x1, x2) (s1, s2) := ⟨_, rfl⟩
 rw [← hdd] at hb hf hd
 have HDD := Lib.hid hdd
 obtain ⟨G, hG⟩ : ∃ G, G = decide (¬ gtS (x1, x2) (s1, s2)) := ⟨_, rfl⟩
 rw [← hG]
 have hg : decide (d ≥ 0) = G := by rw [hG]; exact decide_eq_decide.2 ⟨fun h e => by have := hb.2 e; omega, fun h => by
  rcases Int.lt_or_le d 0 with h1 | h1
  ·exact absurd (hb.1 h1) h
  ·exact h1⟩
 have HG := Lib.hid hg
 have HD := Lib.hid hd
 have hiz : (0 : Int) ≤ (i : Int) := by omega
 have hin : (i : Int) < (n : Int) := by omega
 clear h1 h2 h3 h4 h5 h6 hb hd hdd hG hg hf
 go_enter Tryz.func188, Tryz.ntmps188
 go_wp2_with fail
 go_quiet_grown ((go_at_call 115; exact Calls.grown_of (HD.out _)))
 clear k1 k2 k3 k4 k5 k6
 have hg := HG.out
 go_wp2
 go_ret
 refine ⟨?_, _, _, rfl⟩
 simp only [Ending.returned.injEq, Value.bool.injEq]
 first | exact hg | (rw [← hg]; rfl)
theorem find_any (w0 w : World) (r b : Nat) {at_ before behind : List Int} {st : List (Nat × Nat)} (hR : Row w0 w r b at_ before behind st) (hs : st.Pairwise gtS) (s : Nat × Nat) :
  Calls Tryz.prog 157 #[at0 r, .agg #[.int .i64 s.1, .int .i64 s.2]] w fun e w' => e = .returned (.int .i64 (idxS st s : Nat)) ∧ Below w.heap.size w w' := by
 obtain ⟨va, vb, vc, vs, hR⟩ := hR
 have hRW := hR
 have b2 : Below w.heap.size w ((w.alloc (.cells #[at0 r] 126)).alloc (.cells #[.int .i64 s.1, .int .i64 s.2] 201)) := ((Below.refl _ w).alloc (Nat.le_refl _) _).alloc (by simp) _
 obtain ⟨W, hW⟩ : ∃ W, W = (w.alloc (.cells #[at0 r] 126)).alloc (.cells #[.int .i64 s.1, .int .i64 s.2] 201) := ⟨_, rfl⟩
 have B1 : Blk W w.heap.size 126 #[at0 r] := by rw [hW]; exact (Blk.new w _ _).alloc _
 have B2 : Blk W (w.heap.size + 1) 201 #[.int .i64 s.1, .int .i64 s.2] := by
  rw [hW]
  have := Blk.new (w.alloc (.cells #[at0 r] 126)) 201 #[.int .i64 s.1, .int .i64 s.2]
  simpa using this
 rw [← hW] at b2
 have HW := Lib.hid hW
 have HB2 := Lib.hid b2
 have hR1 := hR.then b2
 obtain ⟨A, c, rfl⟩ := own_slice hR1.stR
 have g1 := B1.cell 0
 have g2 := B2.cell 0
 have g3 := B2.cell 1
 have g4 : W.cell? ⟨r, 4, none⟩ = some (.slice A st.length c) := by have := hR1.blk.cell 4; simpa using this
 simp only [lz0, lz1, lz2] at g1 g2 g3
 have eg : ∀ args w, (callFunc 188 args).run Tryz.prog w = .ok (.enter 188 args) w := enters_of Tryz.func188 (by kernel_rfl) rfl
 have hS := Any.sort_Search Tryz.search 188 #[.pointer (some ⟨w.heap.size, 0, none⟩), .pointer (some ⟨w.heap.size + 1, 0, none⟩)] st.length (fun i => decide (¬ gtS (st.getD i (0, 0)) s)) W eg (by have := hR1.small.2.2.2; omega)
  (fun m os i hi => by
   have hx : st[i]? = some (st.getD i (0, 0)) := by rw [List.getD_eq_getElem?_getD, List.getElem?_eq_getElem hi]; rfl
   obtain ⟨ad, c', e1, _, e2, e3⟩ := own_step_at hR1.stR hx
   simp only [Value.slice.injEq, true_and] at e1
   obtain ⟨rfl, rfl⟩ := e1
   have key : ∀ {a : Addr} {v : Value}, W.cell? a = some v → (grow (W.drewN m) os).cell? a = some v := fun h => cell_grown (World.block_lt_of_cell? W _ h) h m os
   exact find1_any _ r w.heap.size (w.heap.size + 1) s _ ad st.length c i hi (key g1) (key g4) (key g2) (key g3) (key e2) (key e3))
  (fun a b hab hbn hp => by
   have hx : st[a]? = some (st.getD a (0, 0)) := by rw [List.getD_eq_getElem?_getD, List.getElem?_eq_getElem (by omega)]; rfl
   have hy : st[b]? = some (st.getD b (0, 0)) := by rw [List.getD_eq_getElem?_getD, List.getElem?_eq_getElem hbn]; rfl
   have h1 := idxS_at hs s hx
   have h2 := idxS_at hs s hy
   simp only [decide_eq_true_eq] at hp ⊢
   exact fun e => hp (h1.2 (by have := h2.1 e; omega)))
 change Calls Tryz.prog 187 _ _ _ at hS
 have hcount : ((List.range st.length).countP fun i => !(fun i => decide (¬ gtS (st.getD i (0, 0)) s)) i) = idxS st s := by
  unfold idxS
  have e : st = (List.range st.length).map fun i => st.getD i (0, 0) := by
   apply List.ext_getElem
   ·simp
   ·intro i h1 h2
    simp [List.getD_eq_getElem?_getD, h1]
  conv => rhs; rw [e]
  rw [List.countP_map]
  congr 1
  funext i
  simp
 rw [hcount] at hS
 have HS := Lib.hid hS
 obtain ⟨n, hn⟩ : ∃ n, n = st.length := ⟨_, rfl⟩
 rw [← hn] at g4 HS
 obtain ⟨I, hI⟩ : ∃ I, I = idxS st s := ⟨_, rfl⟩
 rw [← hI] at HS
 rw [← hI]
 rw [hW] at g1 g4
 clear hR hRW hR1 hS hcount hn hI hs B1 B2 hW b2 g2 g3 eg
 unfold at0 at g1 g4 HW ⊢
 go_enter Tryz.func157, Tryz.ntmps157
 go_wp2_with (go_at_call 187; rw [← HW.out]; refine HS.out.mono ?_; rintro e w' ⟨rfl, q, os, rfl⟩)
 go_ret
 exact ⟨rfl, below_then (below_drewN HB2.out q) (grow_below (W.drewN q) os) HB2.out.size⟩
end Go.Proofs.YthcjikpabpgpfaaGreat
namespace Go.Proofs.YthcjikpabpgpfaaGreat
open Go.RowKit Go.Maps Go.WideMaps
theorem run_copy_cellsK {P : Program} (w : World) (dT sT ty elem : TypeId) (i : TypeInfo) (k : Nat) (b o dLen dCap : Nat) (a : Addr) (sLen sCap m : Nat) (cs : List Value)
  (hu : P.underlying dT = some (.slice elem)) (hi : P.info? elem = some i) (hs : i.size = k) (hm : Nat.min sLen dLen = m) (hn : cs.length = m * k)
  (hsrc : ∀ j v, cs[j]? = some v → w.cell? (a.add j) = some v) (hc : ∀ j, j < cs.length → (w.cell? ⟨b, o + j, none⟩).isSome = true) (hf : ∀ j, j < cs.length → w.frozen? ⟨b, o + j, none⟩ = false) (h1 : ∀ v ∈ cs, v.oneCell' = true) :
  (Builtin.copy_ #[dT, sT] ty #[.slice (some ⟨b, o, none⟩) dLen dCap, .slice (some a) sLen sCap]).run P w = .ok (goInt m) (w.setCells b o cs) := by
 have hl := run_loadCells_list (P := P) w a cs hsrc
 have hst := run_storeCells_cells (P := P) b o cs 0 w (by simpa using hc) (by simpa using hf) h1
 simp [Builtin.copy_, run_underlying hu, Builtin.lenOf, Builtin.firstCells, sizeOf, typeInfo, hi, hs, hm, ← hn, hl, hst]
theorem run_clear_cells {P : Program} (w : World) (t e ty : TypeId) (z : Value) (ht : P.underlying t = some (.slice e)) (hv : ∀ w, (zeroValue e).run P w = .ok z w) (b o n c : Nat) (hn : 0 < n) (h1 : ∀ v ∈ (Builtin.zeroCells z.cells n).toList, v.oneCell' = true)
  (hc : ∀ j, j < n * z.cells.size → (w.cell? ⟨b, o + j, none⟩).isSome = true) (hf : ∀ j, j < n * z.cells.size → w.frozen? ⟨b, o + j, none⟩ = false) :
  (Builtin.clear_ #[t] ty #[.slice (some ⟨b, o, none⟩) n c]).run P w = .ok (.tuple #[]) (w.setCells b o (Builtin.zeroCells z.cells n).toList) := by
 have hl : (Builtin.zeroCells z.cells n).toList.length = n * z.cells.size := by simp [Builtin.zeroCells]
 have hst := run_storeCells_cells (P := P) b o (Builtin.zeroCells z.cells n).toList 0 w (by rw [hl]; simpa using hc) (by rw [hl]; simpa using hf) h1
 simp only [Nat.add_zero] at hst
 obtain ⟨m, rfl⟩ : ∃ m, n = m + 1 := ⟨n - 1, by omega⟩
 simp [Builtin.clear_, run_underlying ht, hv, hst]
def seg (l : List Value) (o : Nat) (vs : List Value) : List Value := l.take o ++ vs ++ l.drop (o + vs.length)
theorem seg_len {l : List Value} {o : Nat} {vs : List Value} (h : o + vs.length ≤ l.length) : (seg l o vs).length = l.length := by
 unfold seg; simp; omega
theorem setCells_blk {g : Nat} {t : TypeId} : ∀ (vs : List Value) (o : Nat) (w : World) (cs : Array Value), Blk w g t cs → o + vs.length ≤ cs.size → Blk (w.setCells g o vs) g t (seg cs.toList o vs).toArray
 | [], o, w, cs, h, hl => by
  have : (seg cs.toList o []).toArray = cs := by unfold seg; simp
  rw [this]; exact h
 | v :: r, o, w, cs, h, hl => by
  simp only [List.length_cons] at hl
  have ih := setCells_blk r (o + 1) (w.setCell ⟨g, o, none⟩ v) (cs.setIfInBounds o v) (h.set_ o v) (by simp; omega)
  rw [World.setCells]
  have e : seg (cs.setIfInBounds o v).toList (o + 1) r = seg cs.toList o (v :: r) := by
   unfold seg
   have := list_seg_step cs.toList o v r (by simp; omega)
   simpa using this
  rw [← e]; exact ih
theorem setCells_heap (g : Nat) : ∀ (vs : List Value) (o : Nat) (w : World) (k : Nat), k ≠ g → (w.setCells g o vs).heap[k]? = w.heap[k]?
 | [], _, _, _, _ => rfl
 | v :: r, o, w, k, h => by rw [World.setCells, setCells_heap g r _ _ k h, heap_setCell_other _ _ _ h]
theorem setCells_rest (g : Nat) : ∀ (vs : List Value) (o : Nat) (w : World), (w.setCells g o vs).os = w.os ∧ (w.setCells g o vs).tape = w.tape ∧ (w.setCells g o vs).output = w.output ∧ (w.setCells g o vs).heap.size = w.heap.size
 | [], _, _ => ⟨rfl, rfl, rfl, rfl⟩
 | v :: r, o, w => by
  rw [World.setCells]
  obtain ⟨h1, h2, h3, h4⟩ := setCells_rest g r (o + 1) (w.setCell ⟨g, o, none⟩ v)
  exact ⟨h1, h2, h3, by rw [h4, size_setCell']⟩
theorem grown_setCells {w w' : World} {g : Nat} (h : w.grownBy w' (some g)) (o : Nat) (vs : List Value) : w.grownBy (w'.setCells g o vs) (some g) := by
 obtain ⟨h1, h2, h3, h4⟩ := setCells_rest g vs o w'
 exact ⟨h1.trans h.os, h2.trans h.tape, h3.trans h.output, by rw [h4]; exact h.size, fun k hk hne => by rw [setCells_heap g vs o w' k (fun e => hne (by rw [e]))]; exact h.block k hk hne⟩
theorem grown_new {w w' : World} {row : Option Nat} (h : w.grownBy w' row) {g : Nat} (hg : w.heap.size ≤ g) (o : Nat) (vs : List Value) : w.grownBy (w'.setCells g o vs) row := by
 obtain ⟨h1, h2, h3, h4⟩ := setCells_rest g vs o w'
 exact ⟨h1.trans h.os, h2.trans h.tape, h3.trans h.output, by rw [h4]; exact h.size, fun k hk hne => by rw [setCells_heap g vs o w' k (by omega)]; exact h.block k hk hne⟩
theorem grown_drew {w w' : World} {row : Option Nat} (h : w.grownBy w' row) : w.grownBy w'.drew row := ⟨h.os, h.tape, h.output, h.size, h.block⟩
theorem grown_refl (w : World) (row : Option Nat) : w.grownBy w row := ⟨rfl, rfl, rfl, Nat.le_refl _, fun _ _ _ => rfl⟩
theorem grown_alloc {w w' : World} {row : Option Nat} (h : w.grownBy w' row) (o : Obj) : w.grownBy (w'.alloc o) row :=
 ⟨h.os, h.tape, h.output, by have := h.size; simp; omega, fun k hk hne => by rw [Below.heap_alloc w' o k (by have := h.size; omega)]; exact h.block k hk hne⟩
theorem ownsRow_of {w : World} {base g n cap : Nat} {e : TypeId} {size : Nat} {cs : Array Value} {xs : List Value} (h : Blk w g e cs) (hb : base ≤ g) (hn : n ≤ cap) (hc : cap ≤ maxLen) (hs : cs.size = cap * size) (hx : cs.toList.take (n * size) = xs) :
  w.ownsRow base e size (.slice (some ⟨g, 0, none⟩) n cap) n xs := by
 have hle : n * size ≤ cap * size := Nat.mul_le_mul_right _ hn
 refine ⟨?_, .inr ⟨g, cap, cs, rfl, hb, h, hn, hc, hs, hx⟩⟩
 rw [← hx]
 simp
 omega
theorem blk_isSome {w : World} {g : Nat} {t : TypeId} {cs : Array Value} (h : Blk w g t cs) {j : Nat} (hj : j < cs.size) : (w.cell? ⟨g, j, none⟩).isSome = true := by
 rw [h.cell j, Array.getElem?_eq_getElem hj]; rfl
theorem stepInfo : (Tryz.prog.info? 201).map (fun i => (i.zero, i.size, i.bytes)) = some (some (.agg #[.int .i64 0, .int .i64 0]), 2, 16) := by kernel_rfl
theorem stepZero (w : World) : (zeroValue 201).run Tryz.prog w = .ok (.agg #[.int .i64 0, .int .i64 0]) w := by kernel_rfl
theorem stV_one (st : List (Nat × Nat)) : ∀ u ∈ st.flatMap stV, u.oneCell' = true := by
 intro u hu
 obtain ⟨s, _, hs⟩ := List.mem_flatMap.1 hu
 simp [stV] at hs
 rcases hs with rfl | rfl <;> rfl
theorem stV_len (st : List (Nat × Nat)) : (st.flatMap stV).length = st.length * 2 := by
 induction st with
 | nil => rfl
 | cons s r ih => simp [stV, ih]; omega
theorem wpList_clear_run {P : Program} (w : World) {ops : Array Oper} {rest : List Oper} {o : Oper} {a : Act} {Q : Exit → Act → World → Prop} (hgd : o.guard = none) (d : Operand) (t : TypeId)
  (ho : o.op = .call { callee := .builtin .clear, args := #[d], argTypes := #[t] }) (v : Value) (hd : a.eval d = v) {v' : Value} {w' : World}
  (hr : (Builtin.clear_ #[t] o.type #[v]).run P w = .ok v' w') (h : wpList P ops Q rest (a.put o.dst v') w') : wpList P ops Q (o :: rest) a w :=
 wpList_plain hgd fun K hK => by
  unfold Oper.wp execOp
  simp only [ho, resolve, invoke, builtin, Sem.run_bind, Sem.run_pure, Result.andThen_ok, List.map_toArray, List.map_cons, List.map_nil, hd, hr]
  exact hK _ _ h
theorem del_any (w : World) (base : Nat) (v : Value) (n : Nat) (xs : List Value) (hown : w.ownsRow base 201 2 v n xs) (hone : ∀ u ∈ xs, u.oneCell' = true) (i : Nat) (hi : i < n) (hn : n ≤ 1048576) :
  Calls Tryz.prog 158 #[v, .int .i64 i, .int .i64 ((i : Int) + 1)] w fun e w' => ∃ v', e = .returned v' ∧ w'.ownsRow base 201 2 v' (n - 1) (xs.take (i * 2) ++ xs.drop (i * 2 + 2)) ∧ w.grownBy w' v.ownBlock ∧ v'.ownBlock = v.ownBlock := by
 obtain ⟨i0, hi0, hz0, hz1, hz2⟩ := info_parts stepInfo
 have hxl := hown.1
 rcases hown.2 with ⟨rfl, h0⟩ | ⟨g, cap, cur, rfl, hb, hblk, hnc, hcm, hcs, hx⟩
 ·omega
 have HB : Blk w g 201 cur := hblk
 unfold maxLen at hcm
 obtain ⟨m, rfl⟩ : ∃ m, n = m + 1 := ⟨n - 1, by omega⟩
 rw [show m + 1 - 1 = m by omega]
 obtain ⟨news, hnw⟩ : ∃ l, l = xs.drop (i * 2 + 2) := ⟨_, rfl⟩
 rw [← hnw]
 have hnl : news.length = (m - i) * 2 := by rw [hnw, List.length_drop, hxl]; omega
 have hn1 : ∀ u ∈ news, u.oneCell' = true := fun u hu => hone u (List.mem_of_mem_drop (hnw ▸ hu))
 have hcell : ∀ (j : Nat) (u : Value), xs[j]? = some u → w.drew.cell? ⟨g, j, none⟩ = some u := fun j u hu => by
  have : (w.drew).cell? ⟨g, j, none⟩ = cur[j]? := Blk.cell (w := w.drew) hblk j
  rw [this, ← Array.getElem?_toList]
  rw [← hx, List.getElem?_take] at hu
  split at hu
  ·exact hu
  ·cases hu
 obtain ⟨A, hA, hnews⟩ : ∃ A : Addr, (if cap = i + 1 then some (⟨g, 0, none⟩ : Addr) else some ⟨g, (i + 1) * 2, none⟩) = some A ∧ Hid (∀ j u, news[j]? = some u → w.drew.cell? (A.add j) = some u) := by
  by_cases h : cap = i + 1
  ·refine ⟨⟨g, 0, none⟩, by simp [h], fun j u hu => ?_⟩
   have := (List.getElem?_eq_some_iff.1 hu).1
   omega
  ·refine ⟨⟨g, (i + 1) * 2, none⟩, by simp [h], fun j u hu => ?_⟩
   rw [Addr.add_lit]
   refine hcell _ u ?_
   rw [hnw, List.getElem?_drop] at hu
   rw [show (i + 1) * 2 + j = i * 2 + 2 + j by omega]
   exact hu
 have s1 : Hid (news.length = (m - i) * 2) := hnl
 have s2 : Hid (∀ u ∈ news, u.oneCell' = true) := hn1
 have s3 : Hid (∀ j, j < news.length → (w.drew.cell? ⟨g, 0 + i * 2 + j, none⟩).isSome = true ∧ w.drew.frozen? ⟨g, 0 + i * 2 + j, none⟩ = false) := fun j hj => by
  refine ⟨blk_isSome (w := w.drew) hblk (by omega), Blk.frozen (w := w.drew) hblk _⟩
 have hB1 : Blk (w.drew.setCells g (i * 2) news) g 201 (seg cur.toList (i * 2) news).toArray := setCells_blk news _ w.drew cur hblk (by omega)
 have hsl : (seg cur.toList (i * 2) news).length = cap * 2 := by rw [seg_len (by simp; omega)]; simp [hcs]
 obtain ⟨W1, hW1⟩ : ∃ W, W = w.drew.setCells g (i * 2) news := ⟨_, rfl⟩
 rw [← hW1] at hB1
 have hzc : (Value.agg #[.int .i64 0, .int .i64 0]).cells.size = 2 := rfl
 have hzl : (Builtin.zeroCells (Value.agg #[.int .i64 0, .int .i64 0]).cells 1).toList = [.int .i64 0, .int .i64 0] := by kernel_rfl
 have hclr : ∀ ty c, (Builtin.clear_ #[128] ty #[.slice (some ⟨g, m * 2, none⟩) 1 c]).run Tryz.prog W1 = .ok (.tuple #[]) (W1.setCells g (m * 2) [.int .i64 0, .int .i64 0]) := fun ty c => by
  have h := run_clear_cells (P := Tryz.prog) W1 128 201 ty _ Tryz.underlying128 stepZero g (m * 2) 1 c (by omega) (by rw [hzl]; intro u hu; simp at hu; subst hu; rfl)
   (fun j hj => blk_isSome hB1 (by simp only [List.size_toArray, hsl]; rw [hzc] at hj; omega)) (fun j hj => hB1.frozen _)
  rw [hzl] at h
  exact h
 have hB2 : Blk (W1.setCells g (m * 2) [.int .i64 0, .int .i64 0]) g 201 (seg (seg cur.toList (i * 2) news) (m * 2) [.int .i64 0, .int .i64 0]).toArray :=
  setCells_blk _ _ W1 _ hB1 (by simp only [List.size_toArray, hsl]; simp; omega)
 have hG : w.grownBy (W1.setCells g (m * 2) [.int .i64 0, .int .i64 0]) (some g) := by
  rw [hW1]
  exact grown_setCells (grown_setCells (grown_drew (grown_refl w _)) _ _) _ _
 have hfin : (W1.setCells g (m * 2) [.int .i64 0, .int .i64 0]).ownsRow base 201 2 (.slice (some ⟨g, 0, none⟩) m cap) m (xs.take (i * 2) ++ news) := by
  refine ownsRow_of hB2 hb (by omega) (by unfold maxLen; omega) ?_ ?_
  ·simp only [List.size_toArray]
   rw [seg_len (by rw [hsl]; simp; omega), hsl]
  ·have hxt : xs.take (i * 2) = cur.toList.take (i * 2) := by rw [← hx, List.take_take]; congr 1; omega
   have hcl : cur.toList.length = cap * 2 := by simp [hcs]
   rw [hxt]
   unfold seg
   have e1 : (cur.toList.take (i * 2)).length = i * 2 := by simp; omega
   rw [List.take_append_of_le_length (by simp; omega), List.take_append_of_le_length (by simp; omega)]
   rw [List.take_take, Nat.min_self, List.take_append_of_le_length (by simp; omega)]
   rw [List.take_of_length_le (by simp; omega)]
 have HF := Lib.hid hfin
 have HG := Lib.hid hG
 have HC := Lib.hid hclr
 have HW := Lib.hid hW1
 have hmi : i + (m - i) = m := by omega
 have hmi2 : m + 1 - (i + 1) = m - i := by omega
 have hi0' : (0 : Int) ≤ (i : Int) := by omega
 have hp0 : (0 : Int) ≤ (i : Int) + 1 := by omega
 have hp1 : (i : Int) + 1 ≤ (m : Int) + 1 := by omega
 have hp2 : ((i : Int) + 1).toNat = i + 1 := by omega
 have hin : i ≤ cap := by omega
 have hne : ((i : Int) == (i : Int) + 1) = false := by simp; omega
 clear hblk hown hx hcell hnw hnl hn1 hB1 hB2 hG hfin hclr hW1 hxl hone hcs hsl hzc hzl
 go_enter Tryz.func158, Tryz.ntmps158
 go_wp2_with fail
 go_region_law (refine step_append_room rfl (.tmp 22) (.tmp 25) 128 rfl 201 i0 2 Tryz.underlying128 hi0 hz1 g 0 i cap (by simp [Act.eval, Act.put]) A (m - i) (cap - (i + 1)) news (by simp [Act.eval, Act.put, hmi2]) s1.out hnews.out s2.out (by omega) s3.out ?_)
 rw [← HW.out]
 clear HW hA s1 s2 s3 hnews
 go_wp2_with (refine wpList_clear_run _ rfl (.tmp 31) 128 rfl _ rfl (HC.out _ _) ?_)
 go_ret
 exact ⟨_, rfl, HF.out, HG.out, rfl⟩
end Go.Proofs.YthcjikpabpgpfaaGreat
namespace Go.Proofs.YthcjikpabpgpfaaGreat
open Go.RowKit Go.Maps Go.WideMaps Go.Sort
theorem dwn_swo : SWO (ltOf dwn) where
 irrefl := fun x => by
  simp only [ltOf, decide_eq_false_iff_not]
  exact fun h => gtS_irr x ((dwn_neg x x).1 h)
 trans := fun x y z h1 h2 => by
  simp only [ltOf, decide_eq_true_eq] at *
  exact (dwn_neg x z).2 (gtS_trans ((dwn_neg x y).1 h1) ((dwn_neg y z).1 h2))
 ntrans := fun x y z h1 h2 => by
  simp only [ltOf, decide_eq_false_iff_not] at *
  intro h3
  have h3 := (dwn_neg x z).1 h3
  have h1 : ¬ gtS x y := fun e => h1 ((dwn_neg x y).2 e)
  have h2 : ¬ gtS y z := fun e => h2 ((dwn_neg y z).2 e)
  unfold gtS at *
  omega
theorem flat_get (st : List (Nat × Nat)) {t : Nat} (ht : t < st.length * 2) : (st.flatMap stV)[t]? = some ((stV st.toArray[t / 2]!)[t % 2]!) := by
 have hi : t / 2 < st.length := by omega
 have hx : st[t / 2]? = some st[t / 2] := List.getElem?_eq_getElem hi
 have e1 : st.toArray[t / 2]! = st[t / 2] := by rw [getElem!_pos _ _ (by simpa using hi)]; simp
 rw [e1]
 have h := fun (u : Value) (hu : (stV st[t / 2])[t % 2]? = some u) => flat_at (f := stV) (s := 2) (fun _ => rfl) st (t / 2) (t % 2) st[t / 2] u hx hu
 rw [show t / 2 * 2 + t % 2 = t by omega] at h
 refine h _ ?_
 rcases Nat.mod_two_eq_zero_or_one t with e | e <;> rw [e] <;> rfl
theorem flat_size (st : List (Nat × Nat)) : (flatK stV 2 st.toArray).size = st.length * 2 := by simp
def SortOut (w : World) (base : Nat) (v : Value) (st : List (Nat × Nat)) (e : Ending) (w' : World) : Prop :=
 e = .returned (.tuple #[]) ∧ ∃ st' : List (Nat × Nat), st'.Perm st ∧ (∀ (i j : Nat) (x y : Nat × Nat), i < j → st'[i]? = some x → st'[j]? = some y → ¬ gtS y x) ∧ w'.ownsRow base 201 2 v st'.length (st'.flatMap stV) ∧ w.grownBy w' v.ownBlock
theorem sort_any (w : World) (base : Nat) (v : Value) (st : List (Nat × Nat)) (hown : w.ownsRow base 201 2 v st.length (st.flatMap stV)) (hsm : st.length ≤ 1048576) :
  Calls Tryz.prog 114 #[v, .func (.func 115) #[] #[]] w (SortOut w base v st) := by
 rcases hown.2 with ⟨rfl, h0⟩ | ⟨g, cap, cur, rfl, hb, hblk, hnc, hcm, hcs, hx⟩
 ·have h := AnyF.slices_SortFunc_none Tryz.sortStep none 0 (.func (.func 115) #[] #[]) w
  have e : st = [] := List.eq_nil_of_length_eq_zero h0
  subst e
  refine Calls.mono (f := 114) h ?_
  rintro e w' ⟨rfl, rfl⟩
  exact ⟨rfl, [], .refl _, fun i j x y _ h => by simp at h, hown, grown_refl _ _⟩
 ·have eg : ∀ args w, (callFunc 115 args).run Tryz.prog w = .ok (.enter 115 args) w := enters_of Tryz.func115 (by kernel_rfl) rfl
  have hH : HoldsK stV 2 w g 0 st.toArray := fun t ht => by
   rw [flat_size] at ht
   have h1 := flat_get st ht
   have h2 := hown.cells (g := g) rfl t _ h1
   rw [addr_add] at h2
   refine ⟨?_, Blk.frozen hblk _⟩
   rw [Nat.zero_add, h2, get_flatK _ _ _ _ (by simpa using ht)]
   rfl
  have h := AnyQ.slices_SortFunc Tryz.sortStep 2 Tryz.isAgg201 Tryz.sizeOf201 stV (fun _ => rfl) (fun x u hu => by simp [stV] at hu; rcases hu with rfl | rfl <;> rfl) dwn dwn_swo 115 #[] g 0 cap st.toArray w eg (fun m os dk _ x y => downwards_any _ x y) hH (Blk.lt hblk) (by simp; omega)
  simp only [List.size_toArray] at h
  refine Calls.mono (f := 114) h ?_
  rintro e w' ⟨rfl, d', n, os, hp, hs, rfl⟩
  have hsz : d'.size = st.length := by simpa using hp.1
  have hperm : d'.toList.Perm st := by
   have := hp.2.2
   have e : d'.toList.take st.length = d'.toList := List.take_of_length_le (by simp [hsz])
   simp [hsz] at this
   rw [e] at this
   exact this
  have hB : Blk (sortWorldK stV 2 w g 0 n d' os) g 201 (putCells id 0 (flatK stV 2 d') cur) := by
   unfold sortWorldK putRowK putRow
   unfold Blk
   rw [heap_grow_old _ _ (by have := Blk.lt hblk; simpa [mapBlock] using this)]
   simp [mapBlock, Array.getElem?_modify, hblk, onCells]
  have hd : d' = d'.toList.toArray := by simp
  have hl : d'.toList.length = st.length := by simpa using hsz
  refine ⟨rfl, d'.toList, hperm, ?_, ?_, ?_⟩
  ·intro i j x y hij hxi hyj hg
   have hj := (List.getElem?_eq_some_iff.1 hyj)
   have hi := (List.getElem?_eq_some_iff.1 hxi)
   have := hs i j (Nat.zero_le _) hij (by have := hj.1; simp at this; simp; omega)
   rw [getElem!_pos d' j (by simpa using hj.1), getElem!_pos d' i (by simpa using hi.1)] at this
   have e1 : d'[j]'(by simpa using hj.1) = y := by have := hj.2; simpa using this
   have e2 : d'[i]'(by simpa using hi.1) = x := by have := hi.2; simpa using this
   rw [e1, e2] at this
   simp only [ltOf, decide_eq_false_iff_not] at this
   exact this ((dwn_neg y x).2 hg)
  ·rw [hl]
   refine ownsRow_of hB hb hnc hcm (by simp [putCells, hcs]) ?_
   apply List.ext_getElem?
   intro t
   rw [List.getElem?_take]
   by_cases ht : t < st.length * 2
   ·rw [if_pos ht, flat_get _ (by rw [hl]; exact ht)]
    have htc : t < cur.size := by omega
    simp only [putCells, Array.getElem?_toList, Array.getElem?_mapIdx]
    rw [Array.getElem?_eq_getElem htc]
    simp only [Option.map_some, Nat.zero_le, true_and, Nat.zero_add, size_flatK, hsz, ht, if_true, Nat.sub_zero, id, Option.some.injEq]
    rw [get_flatK _ _ _ _ (by rw [hsz]; exact ht), ← hd]
   ·rw [if_neg ht, List.getElem?_eq_none (by rw [stV_len, hl]; omega)]
  ·refine ⟨rfl, rfl, rfl, by simp [sortWorldK, putRowK], fun k hk hne => ?_⟩
   have hne' : k ≠ g := fun e => hne (by rw [e]; rfl)
   unfold sortWorldK putRowK putRow
   rw [heap_grow_old _ _ (by simpa [mapBlock] using hk)]
   simp [mapBlock, Array.getElem?_modify, Ne.symm hne']
end Go.Proofs.YthcjikpabpgpfaaGreat
namespace Go.Proofs.YthcjikpabpgpfaaGreat
open Go.RowKit Go.Maps Go.WideMaps
structure IsRV (w : World) (F : Nat → Prop) (b : Nat) (V : Voc) (tv mv : Value) (svs : List Value) : Prop where
 blk : Blk w b 30 #[tv, mv]
 trow : w.ownsRow 0 24 1 tv V.tok.length svs
 toks : ∀ (i : Nat) (sv : Value) (x : Nm), svs[i]? = some sv → V.tok[i]? = some x → TokIn w F sv x
 mrow : w.ownsRow 0 88 3 mv V.mer.length (V.mer.flatMap mgCells)
 fits : ∀ m ∈ V.mer, mgFits m
 fb : F b
 fv : ∀ g, tv.ownBlock = some g → F g
 fm : ∀ g, mv.ownBlock = some g → F g
 lt : ∀ i, F i → i < w.heap.size
theorem IsRV.kept {w w' : World} {F : Nat → Prop} {b : Nat} {V : Voc} {tv mv : Value} {svs : List Value} (h : IsRV w F b V tv mv svs) (hb : Below w.heap.size w w') : IsRV w' F b V tv mv svs where
 blk := h.blk.same (hb.block _ (h.lt _ h.fb))
 trow := ownsRow_block h.trow fun g hg => hb.block g (h.lt g (h.fv g hg))
 toks := fun i sv x h1 h2 => (h.toks i sv x h1 h2).mono (G := fun _ => False) (Kept.below hb) (fun _ => False.elim) (fun _ hf => .inl hf)
 mrow := ownsRow_block h.mrow fun g hg => hb.block g (h.lt g (h.fm g hg))
 fits := h.fits
 fb := h.fb
 fv := h.fv
 fm := h.fm
 lt := fun i hi => Nat.lt_of_lt_of_le (h.lt i hi) hb.size
theorem IsRV.addTok {w w2 : World} {F : Nat → Prop} {b : Nat} {V : Voc} {tv tv' mv sv : Value} {svs : List Value} {x : Nm} (h : IsRV w F b V tv mv svs) (hx : TokIn w F sv x)
  (hown : w2.ownsRow 0 24 1 tv' (V.tok.length + 1) (svs ++ [sv])) (hg : w.grownBy w2 tv.ownBlock) (hloc : tv'.ownBlock = tv.ownBlock ∨ tv'.ownBlock = some w.heap.size) :
  IsRV (w2.setCell ⟨b, 0, none⟩ tv') (Own F w (w2.setCell ⟨b, 0, none⟩ tv')) b ⟨V.tok ++ [x], V.mer⟩ tv' mv (svs ++ [sv]) ∧ Kept F w (w2.setCell ⟨b, 0, none⟩ tv') := by
 have hnb : tv.ownBlock ≠ some b := own_blk_ne h.trow h.blk (by decide)
 have hblk2 : Blk w2 b 30 #[tv, mv] := h.blk.grown hg (fun e => hnb e.symm)
 have hsz : (w2.setCell ⟨b, 0, none⟩ tv').heap.size = w2.heap.size := size_setCell' _ _ _
 have hs2 := hg.size
 have hkp : Kept F w (w2.setCell ⟨b, 0, none⟩ tv') := ((Kept.refl F w).grown hg (fun g e => .inl (h.fv g e))).setCell (.inl h.fb) _
 have hF : ∀ i, Own F w (w2.setCell ⟨b, 0, none⟩ tv') i → F i ∨ w.heap.size ≤ i := fun i hi => hi.imp id (·.1)
 have hcl : svs.length = V.tok.length := by have := h.trow.1; simpa using this
 have hold : ∀ i, i < w.heap.size → i ≠ b → tv.ownBlock ≠ some i → (w2.setCell ⟨b, 0, none⟩ tv').heap[i]? = w.heap[i]? := fun i h0 h1 h2 => by
  rw [heap_setCell_other _ _ _ h1, hg.block i h0 (fun e => h2 e.symm)]
 refine ⟨?_, hkp⟩
 exact {
  blk := by have := hblk2.set_ 0 tv'; simpa using this
  trow := by
   show World.ownsRow _ 0 24 1 _ (V.tok ++ [x]).length _
   rw [List.length_append, List.length_singleton]
   exact ownsRow_block hown fun g e => heap_setCell_other _ _ _ fun e2 => own_blk_ne hown hblk2 (by decide) (by rw [e, e2])
  toks := fun i sv' y h1 h2 => by
   have h2' : (V.tok ++ [x])[i]? = some y := h2
   rcases Nat.lt_or_ge i V.tok.length with hik | hik
   ·rw [List.getElem?_append_left (by omega)] at h1
    rw [List.getElem?_append_left hik] at h2'
    exact (h.toks i sv' y h1 h2').mono hkp (fun _ hf => hf) hF
   ·have hi' := (List.getElem?_eq_some_iff.1 h2').1
    rw [List.length_append, List.length_singleton] at hi'
    obtain rfl : i = V.tok.length := by omega
    rw [List.getElem?_append_right (by omega), hcl, Nat.sub_self] at h1
    rw [List.getElem?_append_right (Nat.le_refl _), Nat.sub_self] at h2'
    cases h1
    cases h2'
    exact hx.mono hkp (fun _ hf => hf) hF
  mrow := ownsRow_block h.mrow fun g e => by
   have hgl := h.lt g (h.fm g e)
   exact hold g hgl (fun e2 => own_blk_ne h.mrow h.blk (by decide) (by rw [e, e2])) (fun e2 => own_row_ne h.trow h.mrow (by decide) g e2 e)
  fits := h.fits
  fb := .inl h.fb
  fv := fun g e => by
   rcases hloc with hl | hl
   ·exact .inl (h.fv g (hl.symm.trans e))
   ·have hlt := (hown.lt g e).2
    rw [hl] at e
    simp at e
    exact .inr ⟨by omega, by omega⟩
  fm := fun g e => .inl (h.fm g e)
  lt := fun i hi => by
   rcases hi with hi | hi
   ·have := h.lt i hi; omega
   ·exact hi.2 }
theorem IsRV.addMer {w w2 : World} {F : Nat → Prop} {b : Nat} {V : Voc} {tv mv mv' : Value} {svs : List Value} {m : Mg} (h : IsRV w F b V tv mv svs) (hm : mgFits m)
  (hown : w2.ownsRow 0 88 3 mv' (V.mer.length + 1) (V.mer.flatMap mgCells ++ mgCells m)) (hg : w.grownBy w2 mv.ownBlock) (hloc : mv'.ownBlock = mv.ownBlock ∨ mv'.ownBlock = some w.heap.size) :
  IsRV (w2.setCell ⟨b, 1, none⟩ mv') (Own F w (w2.setCell ⟨b, 1, none⟩ mv')) b ⟨V.tok, V.mer ++ [m]⟩ tv mv' svs ∧ Kept F w (w2.setCell ⟨b, 1, none⟩ mv') := by
 have hnb : mv.ownBlock ≠ some b := own_blk_ne h.mrow h.blk (by decide)
 have hblk2 : Blk w2 b 30 #[tv, mv] := h.blk.grown hg (fun e => hnb e.symm)
 have hsz : (w2.setCell ⟨b, 1, none⟩ mv').heap.size = w2.heap.size := size_setCell' _ _ _
 have hs2 := hg.size
 have hkp : Kept F w (w2.setCell ⟨b, 1, none⟩ mv') := ((Kept.refl F w).grown hg (fun g e => .inl (h.fm g e))).setCell (.inl h.fb) _
 have hF : ∀ i, Own F w (w2.setCell ⟨b, 1, none⟩ mv') i → F i ∨ w.heap.size ≤ i := fun i hi => hi.imp id (·.1)
 have hold : ∀ i, i < w.heap.size → i ≠ b → mv.ownBlock ≠ some i → (w2.setCell ⟨b, 1, none⟩ mv').heap[i]? = w.heap[i]? := fun i h0 h1 h2 => by
  rw [heap_setCell_other _ _ _ h1, hg.block i h0 (fun e => h2 e.symm)]
 refine ⟨?_, hkp⟩
 exact {
  blk := by have := hblk2.set_ 1 mv'; simpa using this
  trow := ownsRow_block h.trow fun g e => by
   have hgl := h.lt g (h.fv g e)
   exact hold g hgl (fun e2 => own_blk_ne h.trow h.blk (by decide) (by rw [e, e2])) (fun e2 => own_row_ne h.mrow h.trow (by decide) g e2 e)
  toks := fun i sv' y h1 h2 => (h.toks i sv' y h1 h2).mono hkp (fun _ hf => hf) hF
  mrow := by
   show World.ownsRow _ 0 88 3 _ (V.mer ++ [m]).length ((V.mer ++ [m]).flatMap mgCells)
   rw [List.length_append, List.length_singleton, List.flatMap_append, List.flatMap_singleton]
   exact ownsRow_block hown fun g e => heap_setCell_other _ _ _ fun e2 => own_blk_ne hown hblk2 (by decide) (by rw [e, e2])
  fits := fun m' hm' => by
   rcases List.mem_append.1 hm' with h1 | h1
   ·exact h.fits m' h1
   ·rw [List.mem_singleton.1 h1]; exact hm
  fb := .inl h.fb
  fv := fun g e => .inl (h.fv g e)
  fm := fun g e => by
   rcases hloc with hl | hl
   ·exact .inl (h.fm g (hl.symm.trans e))
   ·have hlt := (hown.lt g e).2
    rw [hl] at e
    simp at e
    exact .inr ⟨by omega, by omega⟩
  lt := fun i hi => by
   rcases hi with hi | hi
   ·have := h.lt i hi; omega
   ·exact hi.2 }
theorem IsRV.far {w w' : World} {F : Nat → Prop} {b : Nat} {V : Voc} {tv mv : Value} {svs : List Value} (h : IsRV w F b V tv mv svs) {g : Nat} (hk : Kept (fun i => i = g) w w') (hg : ¬ F g)
  (ht : ∀ (A : Option Addr) (x : Nm), BytesIn w A x.length x → ∀ ad, A = some ad → 0 < x.length → ad.block ≠ g) : IsRV w' F b V tv mv svs where
 blk := h.blk.kept hk (fun e => hg (e ▸ h.fb))
 trow := ownsRow_kept h.trow hk fun g' hg' e => hg (e ▸ h.fv g' hg')
 toks := fun i sv x h1 h2 => by
  obtain ⟨A, c, e1, e2, e3, e4⟩ := h.toks i sv x h1 h2
  exact ⟨A, c, e1, e2, e3.keptF hk (ht A x e3), e4⟩
 mrow := ownsRow_kept h.mrow hk fun g' hg' e => hg (e ▸ h.fm g' hg')
 fits := h.fits
 fb := h.fb
 fv := h.fv
 fm := h.fm
 lt := fun i hi => Nat.lt_of_lt_of_le (h.lt i hi) hk.size
theorem IsRV.see {w : World} {F : Nat → Prop} {b : Nat} {V : Voc} {tv mv : Value} {svs : List Value} (h : IsRV w F b V tv mv svs) (hl : V.tok.length ≤ 1048576) (hm : V.mer.length ≤ 1048576) :
  ∃ A B ca cb, tv = .slice A V.tok.length ca ∧ mv = .slice B V.mer.length cb ∧ VocSee w A B V.tok.length V.mer.length ca cb V := by
 obtain ⟨A, ca, e1, c1⟩ := own_cap h.trow
 obtain ⟨B, cb, e2⟩ := own_slice h.mrow
 have ht := h.trow
 have hmr := h.mrow
 rw [e1] at ht
 rw [e2] at hmr
 obtain ⟨h3, h4⟩ := ownRows_see ht rfl (by unfold maxLen; omega) (fun i sv x h1 h2 => by
  obtain ⟨A', c', a1, a2, a3, _⟩ := h.toks i sv x h1 h2
  exact ⟨A', c', a1, a2, a3⟩)
 obtain ⟨h5, h6⟩ := MgSee.own hmr rfl (by unfold maxLen; omega) h.fits
 exact ⟨A, B, ca, cb, e1, e2, h3, h5, h4, h6⟩
theorem bytes_of (w : World) (l : Nm) (hl : l.length ≤ 1099511627776) : ∃ c w', (convert 9 24 (.string ⟨l.toArray⟩)).run Tryz.prog w = .ok (.slice (some ⟨w.heap.size, 0, none⟩) l.length c) w' ∧ Below w.heap.size w w' ∧ BytesIn w' (some ⟨w.heap.size, 0, none⟩) l.length l ∧ l.length ≤ c ∧ w'.heap.size = w.heap.size + 1 := by
 have hr := Lib.run_convert_string_bytes (P := Tryz.prog) w 9 24 5 ⟨l.toArray⟩ Tryz.underlying9 Tryz.underlying24 Tryz.underlying5
 have hsz : (⟨l.toArray⟩ : ByteArray).size = l.length := by simp [ByteArray.size]
 rw [hsz] at hr
 have hG := grownCap_ge w l.length 0 5
 refine ⟨_, _, hr, ⟨rfl, rfl, rfl, by rw [Lib.bytesWorld_size]; omega, fun k hk => Lib.bytesWorld_at_old w 5 _ k hk⟩, ⟨by unfold maxLen; omega, ⟨by simp, fun ad e j u hu => ?_, fun e => by cases e⟩, fun ad e _ => by cases e; rw [Lib.bytesWorld_size]; simp⟩, hG, Lib.bytesWorld_size _ _ _⟩
 cases e
 rw [addr_add]
 rw [List.getElem?_map] at hu
 have hj : j < l.length := by
  rcases Nat.lt_or_ge j l.length with h | h
  ·exact h
  ·rw [List.getElem?_eq_none h] at hu; cases hu
 rw [List.getElem?_eq_getElem hj] at hu
 simp only [Option.map_some, Option.some.injEq] at hu
 rw [Lib.bytesWorld_cell w 5 _ j (by rw [hsz]; exact hj), ← hu]
 simp [byteV, List.getD_eq_getElem?_getD, hj]
def RVOut (w : World) (r : Voc × Int) (e : Ending) (w' : World) : Prop :=
 ∃ tv mv svs F b, e = .returned (.tuple #[.agg #[tv, mv], .int .i64 r.2]) ∧ Below w.heap.size w w' ∧ (r.2 = 0 → IsRV w' F b r.1 tv mv svs ∧ ∀ i, F i → w.heap.size ≤ i) ∧ (r.2 ≠ 0 → tv = .slice none 0 0 ∧ mv = .slice none 0 0)
theorem r5Build_any (w : World) (A : Option Addr) (n c : Nat) (l : List (Int × Int)) (hl : PairsIn w A n l) (hn : n ≤ 1048576) :
  Calls Tryz.prog 28 #[.slice A n c] w (RVOut w (buildAll l)) := by
 obtain ⟨i0, hi, hz0, hz1, hz2⟩ := info_parts rowInfo
 obtain ⟨j0, hj0, hy0, hy1, hy2⟩ := info_parts mergeInfo
 obtain ⟨R, hR⟩ : ∃ R, R = buildAll l := ⟨_, rfl⟩
 rw [← hR]
 have HR := Lib.hid hR
 have HL := Lib.hid hl
 clear hl hR
 have hb1 := (Below.refl w.heap.size w).alloc (Nat.le_refl _) (.cells #[.slice none 0 0, .slice none 0 0] 30)
 obtain ⟨W1, hW1⟩ : ∃ W1, W1 = w.alloc (.cells #[.slice none 0 0, .slice none 0 0] 30) := ⟨_, rfl⟩
 have hv0 : Blk W1 w.heap.size 30 #[.slice none 0 0, .slice none 0 0] := by rw [hW1]; exact Blk.new _ _ _
 have hs1 : W1.heap.size = w.heap.size + 1 := by rw [hW1]; simp
 rw [← hW1] at hb1
 have hb2 := (Below.refl W1.heap.size W1).alloc (Nat.le_refl _) (.cells #[.slice none 0 0, .slice none 0 0] 30)
 obtain ⟨W2, hW2⟩ : ∃ W2, W2 = W1.alloc (.cells #[.slice none 0 0, .slice none 0 0] 30) := ⟨_, rfl⟩
 have hv4 : Blk W2 W1.heap.size 30 #[.slice none 0 0, .slice none 0 0] := by rw [hW2]; exact Blk.new _ _ _
 have hs2 : W2.heap.size = W1.heap.size + 1 := by rw [hW2]; simp
 rw [← hW2] at hb2
 rw [hs1] at hv4
 have hrv : IsRV W2 (fun i => i = w.heap.size + 1) (w.heap.size + 1) ⟨[], []⟩ (.slice none 0 0) (.slice none 0 0) [] := {
  blk := hv4
  trow := World.ownsRow_nil _ _ _ _
  toks := fun i sv x h1 _ => by simp at h1
  mrow := World.ownsRow_nil _ _ _ _
  fits := fun m h => by simp at h
  fb := rfl
  fv := fun g h => by simp [Value.ownBlock] at h
  fm := fun g h => by simp [Value.ownBlock] at h
  lt := fun i hi => by rw [hi]; exact hv4.lt }
 have HB2 := Lib.hid (hb1.trans (hb2.mono hb1.size))
 have HV0 := Lib.hid (hv0.below hb2 hv0.lt)
 have hs12 : w.heap.size + 1 ≤ W2.heap.size := by rw [hs2, hs1]; omega
 have HS12 := Lib.hid hs12
 have HRV := Lib.hid hrv
 rw [hW1] at hW2
 have HW2 := Lib.hid hW2
 clear hb1 hW1 hv0 hs1 hb2 hW2 hv4 hs2 hrv hs12 W1
 go_enter Tryz.func28, Tryz.ntmps28
 go_wp2_with fail
 rw [← HW2.out]
 go_loopw [5] (fun i wr => ∃ (j : Nat) (F : Nat → Prop) (tv : Value) (svs : List Value), j ≤ 256 ∧ i = .int .i64 j ∧ IsRV wr F (w.heap.size + 1) ⟨ones.take j, []⟩ tv (.slice none 0 0) svs ∧ (∀ i, F i → w.heap.size + 1 ≤ i) ∧ Below (w.heap.size + 1) W2 wr) (fun i _ => 256 - (intOf i).toNat)
 case atStart => exact ⟨0, _, _, _, by omega, rfl, HRV.out, fun i hi => by omega, Below.refl _ _⟩
 case round =>
  obtain ⟨j, F, tv, svs, hj, rfl, hG, hF, hB⟩ := hrel
  have HG := Lib.hid hG
  have HF := Lib.hid hF
  have HB := Lib.hid hB
  have e0 := hG.blk.cell 0
  simp only [lz0, lz1] at e0
  rcases Nat.lt_or_ge j 256 with hlt | hge
  ·have hlt' : (j : Int) < 256 := by omega
   have htk := ones_take hlt
   obtain ⟨x, rfl⟩ : ∃ x : UInt8, j = x.toNat := ⟨UInt8.ofNat j, by rw [UInt8.toNat_ofNat_of_lt' (by show _ < 256; omega)]⟩
   have hxx : UInt8.ofNat x.toNat = x := by simp
   rw [hxx] at htk
   have hlen : (ones.take x.toNat).length = x.toNat := by rw [List.length_take, ones_len]; omega
   obtain ⟨At, ct, rfl⟩ := own_slice hG.trow
   have b1 := (Below.refl wr.heap.size wr).alloc (Nat.le_refl _) (.cells #[.int .u8 x.toNat] 5)
   have hin := const_in wr [x] (0, 0) (by unfold maxLen; simp)
   obtain ⟨u1, hu1⟩ : ∃ z, z = wr.alloc (.cells #[.int .u8 x.toNat] 5) := ⟨_, rfl⟩
   have hin1 : BytesIn u1 (some ⟨wr.heap.size, 0, none⟩) 1 [x] := by rw [hu1]; exact hin
   have hs1 : u1.heap.size = wr.heap.size + 1 := by rw [hu1]; simp
   rw [← hu1] at b1
   have b2 := (Below.refl u1.heap.size u1).alloc (Nat.le_refl _) (.cells #[.slice (some ⟨wr.heap.size, 0, none⟩) 1 1] 24)
   obtain ⟨u2, hu2⟩ : ∃ z, z = u1.alloc (.cells #[.slice (some ⟨wr.heap.size, 0, none⟩) 1 1] 24) := ⟨_, rfl⟩
   have hn2 : Blk u2 (wr.heap.size + 1) 24 #[.slice (some ⟨wr.heap.size, 0, none⟩) 1 1] := by rw [hu2, ← hs1]; exact Blk.new _ _ _
   have hs2 : u2.heap.size = wr.heap.size + 2 := by rw [hu2]; simp; omega
   rw [← hu2] at b2
   have b12 := below_then b1 b2 b1.size
   have hG2 := hG.kept b12
   have hti : TokIn u2 F (.slice (some ⟨wr.heap.size, 0, none⟩) 1 1) [x] := ⟨_, 1, rfl, Nat.le_refl _, hin1.below b2, fun ad e _ hf => by
    cases e
    have := hG.lt _ hf
    exact absurd this (by simp)⟩
   rw [hu1] at hu2
   have HG2 := Lib.hid hG2
   have HTI := Lib.hid hti
   have HTK := Lib.hid htk
   have HU2 := Lib.hid hu2
   have HN2 := Lib.hid hn2
   have HB2' := Lib.hid (hB.trans (b12.mono (Nat.le_trans HS12.out hB.size)))
   have hrow2 := hG2.trow
   have hnb := own_blk_ne hG2.trow hG2.blk (by decide)
   have HLEN := Lib.hid hlen
   rw [show (Voc.tok ⟨ones.take x.toNat, []⟩) = ones.take x.toNat from rfl, hlen] at hrow2 hnb e0
   have HR2 := Lib.hid hrow2
   have HNB := Lib.hid hnb
   have hblk2 := hG2.blk
   rw [show (Voc.tok ⟨ones.take x.toNat, []⟩) = ones.take x.toNat from rfl, hlen] at hblk2
   have HBK := Lib.hid hblk2
   have HSZ2 := Lib.hid hs2
   have HSW := Lib.hid (Nat.le_trans HS12.out hB.size)
   clear hG hF hB htk hxx hin b1 hin1 hs1 b2 hn2 b12 hG2 hti hu2 hu1 hrow2 hnb hblk2 hlen hs2
   clear u1
   go_wp2_with (at_builtin; rw [← HU2.out]; refine wpList_append_own_at _ rfl _ _ 27 rfl 0 24 i0 (.slice none 0 0) 1 24 Tryz.underlying27 hi hz0 hz1 hz2 rfl (by decide) _ x.toNat svs rfl HR2.out ⟨wr.heap.size + 1, 0, none⟩ 1 1 [.slice (some ⟨wr.heap.size, 0, none⟩) 1 1] rfl rfl (fun j u hu => by rw [addr_add, HN2.out.cell]; simpa using hu) (by simp [Value.oneCell']) (by unfold maxLen; omega) (by omega) (Nat.zero_le _) ?_; intro v' w3 hown' hg3 hnil hloc; obtain ⟨A3, c3, hv⟩ := own_slice hown'; rw [hv]; clear hnil; have HV := Lib.hid hv; clear hv; have HB3 := Lib.hid (HBK.out.grown hg3 (fun e => HNB.out e.symm)); have z0 := HB3.out.frozen 0; have y0 := HB3.out.cell 0; simp at y0; have HOWN := Lib.hid hown'; have HG3 := Lib.hid hg3; have HLOC := Lib.hid hloc; clear hown' hg3 hloc)
   have hown := HOWN.out
   have hg3 := HG3.out
   have hloc := HLOC.out
   rw [HV.out] at hown hloc
   obtain ⟨h5, k5⟩ := HG2.out.addTok (tv' := .slice A3 (x.toNat + 1) c3) (sv := .slice (some ⟨wr.heap.size, 0, none⟩) 1 1) (x := [x]) (w2 := w3) HTI.out (by
    show World.ownsRow _ 0 24 1 _ ((ones.take x.toNat).length + 1) _
    rw [HLEN.out]; exact hown) (by rw [show (Voc.tok ⟨ones.take x.toNat, []⟩) = ones.take x.toNat from rfl, HLEN.out]; exact hg3) (by rw [show (Voc.tok ⟨ones.take x.toNat, []⟩) = ones.take x.toNat from rfl, HLEN.out]; exact hloc)
   have H5 := Lib.hid h5
   have HB5 := Lib.hid (HB2'.out.trans (k5.toBelow (by have := HSW.out; have := HSZ2.out; omega) HF.out))
   clear hown hg3 hloc h5 k5 e0 y0 z0
   go_roundw
   case rel =>
    refine ⟨x.toNat + 1, _, _, _, by omega, by go_num, by rw [HTK.out]; exact H5.out, fun i hi => ?_, HB5.out⟩
    rcases hi with hi | hi
    ·exact HF.out i hi
    ·have h1 := HSZ2.out
     have h2 := HSW.out
     have h3 := hi.1
     omega
   case measure => simp [intOf]; omega
  ·obtain rfl : j = 256 := by omega
   have hjz : ¬ (((256 : Nat) : Int) < 256) := by omega
   have h256 : ones.take 256 = ones := List.take_of_length_le (by rw [ones_len]; omega)
   have HG' := Lib.hid (h256 ▸ hG)
   clear HG h256 hG hF hB e0
   go_wp2_with fail
   go_loopw [6] (fun i wr => ∃ (k : Nat) (F : Nat → Prop) (V : Voc) (tv mv : Value) (svs : List Value), k ≤ n ∧ i = .int .i64 k ∧ VOk V ∧ buildV V (l.drop k) = R ∧ IsRV wr F (w.heap.size + 1) V tv mv svs ∧ (∀ i, F i → w.heap.size + 1 ≤ i) ∧ Below (w.heap.size + 1) W2 wr) (fun i _ => n - (intOf i).toNat)
   case atStart => exact ⟨0, F, ⟨ones, []⟩, _, _, _, Nat.zero_le _, rfl, ones_ok, by rw [HR.out]; rfl, HG'.out, HF.out, HB.out⟩
   case round =>
    clear HG' HF HB F tv svs
    obtain ⟨k, F, V, tv, mv, svs, hk, rfl, hV, hrest, hG, hF, hB⟩ := hrel
    obtain ⟨At, Bm, ct, cm, rfl, rfl, hsee⟩ := hG.see (by have := hV.tl; omega) (by have := hV.ml; omega)
    obtain ⟨tn, htn⟩ : ∃ tn, tn = V.tok.length := ⟨_, rfl⟩
    obtain ⟨mn, hmn⟩ : ∃ mn, mn = V.mer.length := ⟨_, rfl⟩
    have HTN := Lib.hid htn
    have HMN := Lib.hid hmn
    have ht512 : tn ≤ 512 := by rw [htn]; exact hV.tl
    have hm512 : mn ≤ 512 := by rw [hmn]; exact hV.ml
    rw [← htn, ← hmn] at hsee hG
    have HV := Lib.hid hV
    have HRE := Lib.hid hrest
    have HG := Lib.hid hG
    have HF := Lib.hid hF
    have HB := Lib.hid hB
    have HSEE := Lib.hid hsee
    have HBW := Lib.hid (HB2.out.trans (hB.mono (Nat.le_succ _)))
    have HVw := Lib.hid (HV0.out.below hB (Nat.lt_succ_self _))
    have e0 := hG.blk.cell 0
    have e1 := hG.blk.cell 1
    simp only [lz0, lz1, lz2] at e0 e1
    have y0 := HVw.out.cell 0
    have y1 := HVw.out.cell 1
    have z0 := HVw.out.frozen 0
    have z1 := HVw.out.frozen 1
    simp only [lz0, lz1, lz2] at y0 y1
    clear hV hrest hG hF hB htn hmn hsee
    rcases Nat.lt_or_ge k n with hlt | hge
    ·have hlt' : (k : Int) < (n : Int) := by omega
     obtain ⟨ad, p, rfl, hp, c0, c1, f0, f1⟩ := (HL.out.below HBW.out).at k hlt
     obtain ⟨x, y⟩ := p
     simp only at c0 c1 f0 f1
     have hdr : l.drop k = (x, y) :: l.drop (k + 1) := by
      have hkl := (List.getElem?_eq_some_iff.1 hp).1
      rw [List.drop_eq_getElem_cons hkl]
      rw [List.getElem?_eq_getElem hkl] at hp
      rw [Option.some.inj hp]
     have hre := HRE.out
     rw [hdr] at hre
     simp only [buildV] at hre
     have herr : ∀ e : Int, e ≠ 0 → pairErr V x y = e → R = (⟨[], []⟩, e) := fun e h0 he => by
      rw [← hre, if_pos (by rw [he]; exact h0), he]
     have hgood : pairErr V x y = 0 → buildV (pairAdd V x y) (l.drop (k + 1)) = R := fun he => by
      rw [← hre, if_neg (by rw [he]; simp)]
     have h53 : freeB V x y = false → pairErr V x y = 53 := fun h => by unfold pairErr; rw [if_pos h]
     have HERR := Lib.hid herr
     have HGOOD := Lib.hid hgood
     have H53 := Lib.hid h53
     have hk0 : (0 : Int) ≤ (k : Int) := by omega
     obtain ⟨ff, hff⟩ : ∃ ff, ff = freeB V x y := ⟨_, rfl⟩
     have HFF := Lib.hid hff
     have hfd : ff = (decide (0 ≤ x ∧ x < (tn : Int)) && (decide (0 ≤ y ∧ y < (tn : Int)) && !(mergedB V.mer x y))) := by rw [hff, HTN.out]; rfl
     have HFD := Lib.hid hfd
     clear hdr hre hp herr hgood h53 hff hfd
     by_cases g1 : x < 0
     ·have dg1 : decide (x < 0) = true := by simpa using g1
      have hf : freeB V x y = false := by rw [← HFF.out, HFD.out, Bool.eq_false_iff]; intro h; simp at h; omega
      have HFA := Lib.hid hf
      clear hf g1
      go_wp2
      refine bodyPost_ret (results_cell_row_tmp rfl _ _ w.heap.size 30 #[.slice none 0 0, .slice none 0 0] (0, 0) _ rfl ?_ Tryz.underlying30 rfl vocabCells) rfl ?_
      ·have := ((HVw.out).set_ 0 (.slice none 0 0)).set_ 1 (.slice none 0 0)
       simpa [Blk] using this
      ·unfold RVOut
       rw [HERR.out 53 (by omega) (H53.out HFA.out)]
       exact ⟨.slice none 0 0, .slice none 0 0, [], fun _ => False, 0, rfl, ((HBW.out).setCell (Nat.le_refl _) _).setCell (Nat.le_refl _) _, fun h => by simp at h, fun _ => ⟨rfl, rfl⟩⟩
     have dg1 : decide (x < 0) = false := by simpa using g1
     by_cases g2 : (tn : Int) ≤ x
     ·have dg2 : decide ((tn : Int) ≤ x) = true := by simpa using g2
      have hf : freeB V x y = false := by rw [← HFF.out, HFD.out, Bool.eq_false_iff]; intro h; simp at h; omega
      have HFA := Lib.hid hf
      clear hf g2
      go_wp2
      refine bodyPost_ret (results_cell_row_tmp rfl _ _ w.heap.size 30 #[.slice none 0 0, .slice none 0 0] (0, 0) _ rfl ?_ Tryz.underlying30 rfl vocabCells) rfl ?_
      ·have := ((HVw.out).set_ 0 (.slice none 0 0)).set_ 1 (.slice none 0 0)
       simpa [Blk] using this
      ·unfold RVOut
       rw [HERR.out 53 (by omega) (H53.out HFA.out)]
       exact ⟨.slice none 0 0, .slice none 0 0, [], fun _ => False, 0, rfl, ((HBW.out).setCell (Nat.le_refl _) _).setCell (Nat.le_refl _) _, fun h => by simp at h, fun _ => ⟨rfl, rfl⟩⟩
     have dg2 : decide ((tn : Int) ≤ x) = false := by simpa using g2
     by_cases g3 : y < 0
     ·have dg3 : decide (y < 0) = true := by simpa using g3
      have hf : freeB V x y = false := by rw [← HFF.out, HFD.out, Bool.eq_false_iff]; intro h; simp at h; omega
      have HFA := Lib.hid hf
      clear hf g3
      go_wp2
      refine bodyPost_ret (results_cell_row_tmp rfl _ _ w.heap.size 30 #[.slice none 0 0, .slice none 0 0] (0, 0) _ rfl ?_ Tryz.underlying30 rfl vocabCells) rfl ?_
      ·have := ((HVw.out).set_ 0 (.slice none 0 0)).set_ 1 (.slice none 0 0)
       simpa [Blk] using this
      ·unfold RVOut
       rw [HERR.out 53 (by omega) (H53.out HFA.out)]
       exact ⟨.slice none 0 0, .slice none 0 0, [], fun _ => False, 0, rfl, ((HBW.out).setCell (Nat.le_refl _) _).setCell (Nat.le_refl _) _, fun h => by simp at h, fun _ => ⟨rfl, rfl⟩⟩
     have dg3 : decide (y < 0) = false := by simpa using g3
     by_cases g4 : (tn : Int) ≤ y
     ·have dg4 : decide ((tn : Int) ≤ y) = true := by simpa using g4
      have hf : freeB V x y = false := by rw [← HFF.out, HFD.out, Bool.eq_false_iff]; intro h; simp at h; omega
      have HFA := Lib.hid hf
      clear hf g4
      go_wp2
      refine bodyPost_ret (results_cell_row_tmp rfl _ _ w.heap.size 30 #[.slice none 0 0, .slice none 0 0] (0, 0) _ rfl ?_ Tryz.underlying30 rfl vocabCells) rfl ?_
      ·have := ((HVw.out).set_ 0 (.slice none 0 0)).set_ 1 (.slice none 0 0)
       simpa [Blk] using this
      ·unfold RVOut
       rw [HERR.out 53 (by omega) (H53.out HFA.out)]
       exact ⟨.slice none 0 0, .slice none 0 0, [], fun _ => False, 0, rfl, ((HBW.out).setCell (Nat.le_refl _) _).setCell (Nat.le_refl _) _, fun h => by simp at h, fun _ => ⟨rfl, rfl⟩⟩
     have dg4 : decide ((tn : Int) ≤ y) = false := by simpa using g4
     cases hmg : mergedB V.mer x y with
     | true =>
      have HMG := Lib.hid hmg
      have hf : freeB V x y = false := by rw [← HFF.out, HFD.out, hmg]; simp
      have HFA := Lib.hid hf
      clear hf hmg
      go_wp2_with fail
      refine (r5merged_is wr Bm mn cm V.mer HSEE.out.mer x y HMG.out).mono ?_
      rintro e w3 ⟨rfl, hw⟩
      rw [hw]
      clear hw w3
      go_wp2
      refine bodyPost_ret (results_cell_row_tmp rfl _ _ w.heap.size 30 #[.slice none 0 0, .slice none 0 0] (0, 0) _ rfl ?_ Tryz.underlying30 rfl vocabCells) rfl ?_
      ·have := ((HVw.out).set_ 0 (.slice none 0 0)).set_ 1 (.slice none 0 0)
       simpa [Blk] using this
      ·unfold RVOut
       rw [HERR.out 53 (by omega) (H53.out HFA.out)]
       exact ⟨.slice none 0 0, .slice none 0 0, [], fun _ => False, 0, rfl, ((HBW.out).setCell (Nat.le_refl _) _).setCell (Nat.le_refl _) _, fun h => by simp at h, fun _ => ⟨rfl, rfl⟩⟩
     | false =>
      have HMG := Lib.hid hmg
      have hf : freeB V x y = true := by
       rw [← HFF.out, HFD.out, hmg, decide_eq_true (by omega), decide_eq_true (by omega)]; rfl
      obtain ⟨i, j, s, t, hi, hj, hs, ht, hboth, -⟩ := free_idx hf
      obtain ⟨adt, C1, q1, rfl, a1, _, i1⟩ := HSEE.out.tok.at_ i s hs
      obtain ⟨_, C2, q2, hh, a2, _, i2⟩ := HSEE.out.tok.at_ j t ht
      cases hh
      have hsl := HV.out.short s (List.mem_of_getElem? hs)
      have htl := HV.out.short t (List.mem_of_getElem? ht)
      have hit : (i : Int) < (tn : Int) := by omega
      have hjt : (j : Int) < (tn : Int) := by omega
      have hi0 : (0 : Int) ≤ (i : Int) := by omega
      have hj0' : (0 : Int) ≤ (j : Int) := by omega
      subst hi hj
      have e0q : ∀ q, (wr.drewN q).cell? ⟨w.heap.size + 1, 0, none⟩ = some (.slice (some adt) tn ct) := fun _ => e0
      have a1q : ∀ q, (wr.drewN q).cell? (adt.add i) = some (.slice C1 s.length q1) := fun _ => a1
      have a2q : ∀ q, (wr.drewN q).cell? (adt.add j) = some (.slice C2 t.length q2) := fun _ => a2
      have cv1 := fun q => str_of (i1.drewN q) q1
      have cv2 := fun q => str_of (i2.drewN q) q2
      have la := hsl.2
      have lb := htl.2
      have laz : (s.length : Int) ≤ 8388608 := by omega
      have lbz : (t.length : Int) ≤ 8388608 := by omega
      have lab : s.length + t.length ≤ 9223372036854775807 := by omega
      have labn : ¬ (9223372036854775807 < s.length + t.length) := by omega
      obtain ⟨st, hst⟩ : ∃ st, st = s ++ t := ⟨_, rfl⟩
      have hbs : (⟨s.toArray⟩ : ByteArray) ++ ⟨t.toArray⟩ = ⟨st.toArray⟩ := by rw [hst, ByteArray.mk_append_mk]
      have hstl : st.length = s.length + t.length := by rw [hst, List.length_append]
      have HBO := Lib.hid (hboth.trans hst.symm)
      have HFA := Lib.hid hf
      have HL1 := Lib.hid hsl
      have HSTL := Lib.hid hstl
      clear hmg hf hs ht hboth a1 a2 i1 i2 hsl htl hst hstl
      go_wp2_with fail
      refine (r5merged_is wr Bm mn cm V.mer HSEE.out.mer i j HMG.out).mono ?_
      rintro e w3 ⟨rfl, hw⟩
      rw [hw]
      clear hw w3
      go_wp2_with fail
      go_quiet (fail)
      obtain ⟨X, hX⟩ : ∃ z, z = wr.drewN nq := ⟨_, rfl⟩
      rw [← hX]
      have hbX : Below wr.heap.size wr X := by rw [hX]; exact below_drewN (Below.refl _ _) _
      have HGX := Lib.hid (HG.out.kept hbX)
      have HSX := Lib.hid (HSEE.out.below hbX)
      have HBX := Lib.hid (below_then HBW.out hbX HBW.out.size)
      have HBX1 := Lib.hid (HB.out.trans (hbX.mono (Nat.le_trans HS12.out HB.out.size)))
      have HVX := Lib.hid (HVw.out.below hbX HVw.out.lt)
      have hszX : w.heap.size + 1 ≤ X.heap.size := Nat.le_trans (Nat.le_trans HS12.out HB.out.size) hbX.size
      have HSZX := Lib.hid hszX
      have b0 := HGX.out.blk.cell 0
      have b1 := HGX.out.blk.cell 1
      simp only [lz0, lz1, lz2] at b0 b1
      have y0' := HVX.out.cell 0
      have y1' := HVX.out.cell 1
      have z0' := HVX.out.frozen 0
      have z1' := HVX.out.frozen 1
      simp only [lz0, lz1, lz2] at y0' y1'
      clear hX hbX e0q a1q a2q cv1 cv2 e0 e1 y0 y1 z0 z1 c0 c1 hszX hbs
      have hpe : pairErr V i j = if 16 < st.length then 52 else if 512 ≤ mn ∨ (findT V.tok st < 0 ∧ 512 ≤ tn) then 2 else 0 := by
       unfold pairErr
       rw [if_neg (by rw [HFA.out]; simp), HBO.out, HMN.out, HTN.out]
      have HPE := Lib.hid hpe
      clear hpe
      by_cases h16 : 16 < st.length
      ·have z16 : (16 : Int) < (st.length : Int) := by omega
       have H16 := Lib.hid h16
       clear h16
       go_wp2
       refine bodyPost_ret (results_cell_row_tmp rfl _ _ w.heap.size 30 #[.slice none 0 0, .slice none 0 0] (0, 0) _ rfl ?_ Tryz.underlying30 rfl vocabCells) rfl ?_
       ·have := ((HVX.out).set_ 0 (.slice none 0 0)).set_ 1 (.slice none 0 0)
        simpa [Blk] using this
       ·unfold RVOut
        rw [HERR.out 52 (by omega) (by rw [HPE.out, if_pos H16.out])]
        exact ⟨.slice none 0 0, .slice none 0 0, [], fun _ => False, 0, rfl, ((HBX.out).setCell (Nat.le_refl _) _).setCell (Nat.le_refl _) _, fun h => by simp at h, fun _ => ⟨rfl, rfl⟩⟩
      have z16 : ¬ (16 : Int) < (st.length : Int) := by omega
      obtain ⟨fd, hfd⟩ : ∃ fd, fd = findT V.tok st := ⟨_, rfl⟩
      have hfb := find_fits (L := V.tok) (by rw [← HTN.out]; omega) st
      rw [← hfd] at HPE hfb
      rw [if_neg h16] at HPE
      have HFDT := Lib.hid hfd
      have H16 := Lib.hid h16
      have hslen : st.length ≤ 16 := by omega
      clear hfd h16
      go_wp2_with fail
      refine (r5find_is X (some adt) tn ct V.tok st HSX.out.tok HFDT.out.symm).mono ?_
      rintro e w3 ⟨rfl, hw⟩
      rw [hw]
      clear hw w3
      by_cases hmf : 512 ≤ mn
      ·have dm : decide ((512 : Int) ≤ (mn : Int)) = true := by simp; omega
       have HMF := Lib.hid hmf
       clear hmf
       go_wp2
       refine bodyPost_ret (results_cell_row_tmp rfl _ _ w.heap.size 30 #[.slice none 0 0, .slice none 0 0] (0, 0) _ rfl ?_ Tryz.underlying30 rfl vocabCells) rfl ?_
       ·have := ((HVX.out).set_ 0 (.slice none 0 0)).set_ 1 (.slice none 0 0)
        simpa [Blk] using this
       ·unfold RVOut
        rw [HERR.out 2 (by omega) (by rw [HPE.out, if_pos (.inl HMF.out)])]
        exact ⟨.slice none 0 0, .slice none 0 0, [], fun _ => False, 0, rfl, ((HBX.out).setCell (Nat.le_refl _) _).setCell (Nat.le_refl _) _, fun h => by simp at h, fun _ => ⟨rfl, rfl⟩⟩
      have dm : decide ((512 : Int) ≤ (mn : Int)) = false := by simp; omega
      by_cases hneg : fd < 0
      ·have dn : decide (fd < 0) = true := by simpa using hneg
       by_cases htf : 512 ≤ tn
       ·have dt : decide ((512 : Int) ≤ (tn : Int)) = true := by simp; omega
        have HTF := Lib.hid htf
        have HNEG := Lib.hid hneg
        clear htf hneg
        go_wp2
        refine bodyPost_ret (results_cell_row_tmp rfl _ _ w.heap.size 30 #[.slice none 0 0, .slice none 0 0] (0, 0) _ rfl ?_ Tryz.underlying30 rfl vocabCells) rfl ?_
        ·have := ((HVX.out).set_ 0 (.slice none 0 0)).set_ 1 (.slice none 0 0)
         simpa [Blk] using this
        ·unfold RVOut
         rw [HERR.out 2 (by omega) (by rw [HPE.out, if_pos (.inr ⟨HNEG.out, HTF.out⟩)])]
         exact ⟨.slice none 0 0, .slice none 0 0, [], fun _ => False, 0, rfl, ((HBX.out).setCell (Nat.le_refl _) _).setCell (Nat.le_refl _) _, fun h => by simp at h, fun _ => ⟨rfl, rfl⟩⟩
       have dt : decide ((512 : Int) ≤ (tn : Int)) = false := by simp; omega
       have hok : pairErr V i j = 0 := by rw [HPE.out, if_neg (by omega)]
       have hadd : pairAdd V i j = ⟨V.tok ++ [st], V.mer ++ [⟨i, j, (tn : Int)⟩]⟩ := by
        unfold pairAdd
        rw [HBO.out, ← HFDT.out, if_pos hneg, HTN.out]
       have HOKP := Lib.hid hok
       have HADD := Lib.hid hadd
       obtain ⟨cb, w5, hrun, hb5, hin5, hc5, hs5⟩ := bytes_of X st (by omega)
       have hG5 := HGX.out.kept hb5
       have b2 := (Below.refl w5.heap.size w5).alloc (Nat.le_refl _) (.cells #[.slice (some ⟨X.heap.size, 0, none⟩) st.length cb] 24)
       obtain ⟨u2, hu2⟩ : ∃ z, z = w5.alloc (.cells #[.slice (some ⟨X.heap.size, 0, none⟩) st.length cb] 24) := ⟨_, rfl⟩
       have hn2 : Blk u2 w5.heap.size 24 #[.slice (some ⟨X.heap.size, 0, none⟩) st.length cb] := by rw [hu2]; exact Blk.new _ _ _
       rw [← hu2] at b2
       have hG2 := hG5.kept b2
       have hb52 := below_then hb5 b2 hb5.size
       have hti : TokIn u2 F (.slice (some ⟨X.heap.size, 0, none⟩) st.length cb) st := ⟨_, cb, rfl, hc5, hin5.below b2, fun ad e _ hf => by
        cases e
        have := HGX.out.lt _ hf
        exact absurd this (by simp)⟩
       have hrow2 := hG2.trow
       rw [← HTN.out] at hrow2
       have HG2 := Lib.hid hG2
       have HTI := Lib.hid hti
       have HU2 := Lib.hid hu2
       have HN2 := Lib.hid hn2
       have HR2 := Lib.hid hrow2
       have HNB := Lib.hid (own_blk_ne hrow2 hG2.blk (by decide))
       have HBK := Lib.hid hG2.blk
       have HB2' := Lib.hid (HBX1.out.trans (hb52.mono HSZX.out))
       have hsu : X.heap.size ≤ u2.heap.size := hb52.size
       have HSU := Lib.hid hsu
       have e0w := hG5.blk.cell 0
       simp only [lz0, lz1] at e0w
       clear hok hadd hb5 hin5 hc5 hs5 hG5 b2 hu2 hn2 hG2 hb52 hti hrow2 hsu
       clear y0' y1' z0' z1'
       have tok1 : True := trivial
       have tok2 : True := trivial
       have htnf : fits64 (tn : Int) := ⟨by omega, by omega⟩
       have HTNF := Lib.hid htnf
       clear htnf
       go_wp2_with (first
        | (
         have _t := tok1
         at_builtin
         rw [← HU2.out]
         refine wpList_append_own_at _ rfl _ _ 27 rfl 0 24 i0 (.slice none 0 0) 1 24 Tryz.underlying27 hi hz0 hz1 hz2 rfl (by decide) _ tn svs rfl HR2.out ⟨w5.heap.size, 0, none⟩ 1 1 [.slice (some ⟨X.heap.size, 0, none⟩) st.length cb] rfl rfl (fun j u hu => by rw [addr_add, HN2.out.cell]; simpa using hu) (by simp [Value.oneCell']) (by unfold maxLen; omega) (by omega) (Nat.zero_le _) ?_
         intro v' w6 hown' hg3 hnil hloc
         clear tok1 hnil
         obtain ⟨A3, c3, hv⟩ := own_slice hown'
         rw [hv] at hown' hloc ⊢
         clear hv
         have HB3 := Lib.hid (HBK.out.grown hg3 (fun e => HNB.out e.symm))
         have z0 := HB3.out.frozen 0
         have y0 := HB3.out.cell 0
         simp at y0
         obtain ⟨h5, k5⟩ := HG2.out.addTok (tv' := .slice A3 (tn + 1) c3) (w2 := w6) HTI.out (by rw [← HTN.out]; exact hown') hg3 hloc
         have HB5 := Lib.hid (HB2'.out.trans (k5.toBelow (Nat.le_trans HSZX.out HSU.out) HF.out))
         have y9 := h5.blk.cell 1
         simp only [lz0, lz1, lz2] at y9
         have hs6 : u2.heap.size ≤ w6.heap.size := hg3.size
         have h5s := size_setCell' w6 ⟨w.heap.size + 1, 0, none⟩ (.slice A3 (tn + 1) c3)
         have hbA := (Below.refl (w6.setCell ⟨w.heap.size + 1, 0, none⟩ (.slice A3 (tn + 1) c3)).heap.size (w6.setCell ⟨w.heap.size + 1, 0, none⟩ (.slice A3 (tn + 1) c3))).alloc (Nat.le_refl _) (.cells #[.int .i64 i, .int .i64 j, .int .i64 tn] 88)
         obtain ⟨u4, hu4⟩ : ∃ z, z = (w6.setCell ⟨w.heap.size + 1, 0, none⟩ (.slice A3 (tn + 1) c3)).alloc (.cells #[.int .i64 i, .int .i64 j, .int .i64 tn] 88) := ⟨_, rfl⟩
         have hn4 : Blk u4 w6.heap.size 88 #[.int .i64 i, .int .i64 j, .int .i64 tn] := by rw [hu4, ← h5s]; exact Blk.new _ _ _
         rw [← hu4] at hbA
         have h6 := h5.kept hbA
         have hr6 := h6.mrow
         have hb6 := h6.blk
         have hnb6 := own_blk_ne hr6 hb6 (by decide)
         simp only [← HMN.out] at hr6
         have HB6 := Lib.hid (HB5.out.trans (hbA.mono (by rw [h5s]; have := HSU.out; have := HSZX.out; omega)))
         have HS6 := Lib.hid (show w.heap.size + 1 ≤ u4.heap.size from by have h1 := hbA.size; rw [h5s] at h1; have := HSU.out; have := HSZX.out; omega)
         have HF6 := Lib.hid (show ∀ q, Own F u2 (w6.setCell ⟨w.heap.size + 1, 0, none⟩ (.slice A3 (tn + 1) c3)) q → w.heap.size + 1 ≤ q from fun q hq => by
          rcases hq with hq | hq
          ·exact HF.out q hq
          ·have h1 := hq.1
           have := HSU.out
           have := HSZX.out
           omega)
         have H6 := Lib.hid h6
         have HR6 := Lib.hid hr6
         have HBK6 := Lib.hid hb6
         have HNB6 := Lib.hid hnb6
         have HU4 := Lib.hid hu4
         have HN4 := Lib.hid hn4
         clear hown' hg3 hloc h5 k5 hs6 h5s hbA hn4 hu4 h6 hr6 hb6 hnb6)
        | (
         have _t := tok2
         at_builtin
         rw [← HU4.out]
         refine wpList_append_own_at _ rfl _ _ 28 rfl 0 88 j0 _ 3 24 Tryz.underlying28 hj0 hy0 hy1 hy2 rfl (by decide) _ mn (V.mer.flatMap mgCells) rfl HR6.out ⟨w6.heap.size, 0, none⟩ 1 1 (mgCells ⟨i, j, (tn : Int)⟩) rfl rfl (fun j u hu => by rw [addr_add, HN4.out.cell]; simpa [mgCells] using hu) (by simp [mgCells, Value.oneCell']) (by unfold maxLen; omega) (by omega) (Nat.zero_le _) ?_
         intro v' w8 hown' hg3 hnil hloc
         clear tok2 hnil
         obtain ⟨A8, c8, hv⟩ := own_slice hown'
         rw [hv] at hown' hloc ⊢
         clear hv
         have HB8 := Lib.hid (HBK6.out.grown hg3 (fun e => HNB6.out e.symm))
         have z8 := HB8.out.frozen 1
         have y8 := HB8.out.cell 1
         simp at y8
         have HOWN8 := Lib.hid hown'
         have HG8 := Lib.hid hg3
         have HLOC8 := Lib.hid hloc
         clear hown' hg3 hloc))
       have hown := HOWN8.out
       obtain ⟨h9, k9⟩ := H6.out.addMer (mv' := .slice A8 (mn + 1) c8) (m := ⟨i, j, (tn : Int)⟩) (w2 := w8) ⟨f0, f1, HTNF.out⟩ (by simp only [← HMN.out]; exact hown) HG8.out HLOC8.out
       have H9 := Lib.hid h9
       have HB9 := Lib.hid (HB6.out.trans (k9.toBelow HS6.out HF6.out))
       clear hown h9 k9 z8 y8
       go_roundw
       case rel =>
        refine ⟨k + 1, _, _, _, _, _, by omega, by go_num, HV.out.add HOKP.out, HGOOD.out HOKP.out, by rw [HADD.out]; exact H9.out, fun q hq => ?_, HB9.out⟩
        rcases hq with hq | hq
        ·exact HF6.out q hq
        ·have h1 := HS6.out
         have h2 := hq.1
         omega
       case measure => simp [intOf]; omega
      ·have dn : decide (fd < 0) = false := by simpa using hneg
       have hok : pairErr V i j = 0 := by rw [HPE.out, if_neg (by omega)]
       have hadd : pairAdd V i j = ⟨V.tok, V.mer ++ [⟨i, j, fd⟩]⟩ := by
        unfold pairAdd
        rw [HBO.out, ← HFDT.out, if_neg hneg]
       have HOKP := Lib.hid hok
       have HADD := Lib.hid hadd
       have HFB := Lib.hid hfb
       have hbA := (Below.refl X.heap.size X).alloc (Nat.le_refl _) (.cells #[.int .i64 i, .int .i64 j, .int .i64 fd] 88)
       obtain ⟨u4, hu4⟩ : ∃ z, z = X.alloc (.cells #[.int .i64 i, .int .i64 j, .int .i64 fd] 88) := ⟨_, rfl⟩
       have hn4 : Blk u4 X.heap.size 88 #[.int .i64 i, .int .i64 j, .int .i64 fd] := by rw [hu4]; exact Blk.new _ _ _
       rw [← hu4] at hbA
       have h6 := HGX.out.kept hbA
       have hr6 := h6.mrow
       have hb6 := h6.blk
       have hnb6 := own_blk_ne hr6 hb6 (by decide)
       rw [← HMN.out] at hr6
       have HB6 := Lib.hid (HBX1.out.trans (hbA.mono HSZX.out))
       have HS6 := Lib.hid (Nat.le_trans HSZX.out hbA.size)
       have H6 := Lib.hid h6
       have HR6 := Lib.hid hr6
       have HBK6 := Lib.hid hb6
       have HNB6 := Lib.hid hnb6
       have HU4 := Lib.hid hu4
       have HN4 := Lib.hid hn4
       clear hok hadd hbA hu4 hn4 h6 hr6 hb6 hnb6 y0' y1' z0' z1'
       have tok2 : True := trivial
       go_wp2_with (
        have _t := tok2
        at_builtin
        rw [← HU4.out]
        refine wpList_append_own_at _ rfl _ _ 28 rfl 0 88 j0 _ 3 24 Tryz.underlying28 hj0 hy0 hy1 hy2 rfl (by decide) _ mn (V.mer.flatMap mgCells) rfl HR6.out ⟨X.heap.size, 0, none⟩ 1 1 (mgCells ⟨i, j, fd⟩) rfl rfl (fun j u hu => by rw [addr_add, HN4.out.cell]; simpa [mgCells] using hu) (by simp [mgCells, Value.oneCell']) (by unfold maxLen; omega) (by omega) (Nat.zero_le _) ?_
        intro v' w8 hown' hg3 hnil hloc
        clear tok2 hnil
        obtain ⟨A8, c8, hv⟩ := own_slice hown'
        rw [hv] at hown' hloc ⊢
        clear hv
        have HB8 := Lib.hid (HBK6.out.grown hg3 (fun e => HNB6.out e.symm))
        have z8 := HB8.out.frozen 1
        have y8 := HB8.out.cell 1
        simp at y8
        have HOWN8 := Lib.hid hown'
        have HG8 := Lib.hid hg3
        have HLOC8 := Lib.hid hloc
        clear hown' hg3 hloc)
       have hown := HOWN8.out
       obtain ⟨h9, k9⟩ := H6.out.addMer (mv' := .slice A8 (mn + 1) c8) (m := ⟨i, j, fd⟩) (w2 := w8) ⟨f0, f1, HFB.out⟩ (by simp only [← HMN.out]; exact hown) HG8.out HLOC8.out
       have H9 := Lib.hid h9
       have HB9 := Lib.hid (HB6.out.trans (k9.toBelow HS6.out HF.out))
       clear hown h9 k9 z8 y8
       go_roundw
       case rel =>
        refine ⟨k + 1, _, _, _, _, _, by omega, by go_num, HV.out.add HOKP.out, HGOOD.out HOKP.out, by rw [HADD.out]; exact H9.out, fun q hq => ?_, HB9.out⟩
        rcases hq with hq | hq
        ·exact HF.out q hq
        ·have h1 := HS6.out
         have h2 := hq.1
         omega
       case measure => simp [intOf]; omega
    ·obtain rfl : k = n := by omega
     have hkz : ¬ ((k : Int) < (k : Int)) := by omega
     have hre := HRE.out
     rw [List.drop_of_length_le (by rw [HL.out.len]; exact Nat.le_refl _)] at hre
     have HRE3 := Lib.hid hre
     clear hre
     go_wp2
     have hnF : ¬ F w.heap.size := fun hf => by have := HF.out _ hf; omega
     have hk1 : Kept (fun i => i = w.heap.size) wr (wr.setCell ⟨w.heap.size, 0, none⟩ (.slice At tn ct)) := (Kept.refl (fun i => i = w.heap.size) wr).setCell (p := ⟨w.heap.size, 0, none⟩) (.inl rfl) _
     have hk2 : Kept (fun i => i = w.heap.size) wr ((wr.setCell ⟨w.heap.size, 0, none⟩ (.slice At tn ct)).setCell ⟨w.heap.size, 1, none⟩ (.slice Bm mn cm)) := hk1.setCell (p := ⟨w.heap.size, 1, none⟩) (.inl rfl) _
     have h4 := HG.out.far hk2 hnF (fun A0 x hx => not_bytes HVw.out (fun i c => by
      match i with
      | 0 => simp [byteV]
      | 1 => simp [byteV]
      | i + 2 => simp) A0 x hx)
     refine bodyPost_ret (results_cell_row_tmp rfl _ _ w.heap.size 30 #[.slice At tn ct, .slice Bm mn cm] (0, 0) _ rfl ?_ Tryz.underlying30 rfl vocabCells) rfl ?_
     ·have := (HVw.out.set_ 0 (.slice At tn ct)).set_ 1 (.slice Bm mn cm)
      simpa [Blk] using this
     ·unfold RVOut
      rw [← HRE3.out]
      exact ⟨.slice At tn ct, .slice Bm mn cm, svs, F, w.heap.size + 1, rfl, (HBW.out.setCell (Nat.le_refl _) _).setCell (Nat.le_refl _) _, fun _ => ⟨h4, fun i hi => by have := HF.out i hi; omega⟩, fun h => absurd rfl h⟩
end Go.Proofs.YthcjikpabpgpfaaGreat
