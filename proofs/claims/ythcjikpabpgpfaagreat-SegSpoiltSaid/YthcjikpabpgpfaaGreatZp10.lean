import Derived.Test.YthcjikpabpgpfaaGreatZp0
import Derived.Test.YthcjikpabpgpfaaGreatZp6
import Derived.Maps.OwnRows
import Derived.Maps.GroupsBeside
import Derived.Lib.SlKeysI
import Derived.OwnWalk
import Derived.Test.YthcjikpabpgpfaaGreatZp3
set_option linter.unusedSimpArgs false
set_option maxHeartbeats 16000000
set_option maxRecDepth 100000
namespace Go.Proofs.YthcjikpabpgpfaaGreat
abbrev Pl := Int × Int × Int
def plUp (x : MDoc) (t : Int) (k : Nat) : List Pl := (spotUp x t k).map fun s => (x.doc, s)
def plOf (L : List MDoc) (t : Int) : List Pl := L.flatMap fun x => plUp x t x.T.length
theorem plUp_next (x : MDoc) (t : Int) (k : Nat) : plUp x t (k + 1) = if x.T.getD k 0 = t then plUp x t k ++ [(x.doc, (k : Int), x.S.getD k 0)] else plUp x t k := by
 unfold plUp
 rw [spotUp]
 split
 ·rw [List.map_append]; rfl
 ·rfl
theorem plUp_len (x : MDoc) (t : Int) (k : Nat) : (plUp x t k).length ≤ k := by
 unfold plUp
 rw [List.length_map]
 exact spotUp_len x t k
theorem plOf_append (L : List MDoc) (x : MDoc) (t : Int) : plOf (L ++ [x]) t = plOf L t ++ plUp x t x.T.length := by
 unfold plOf
 rw [List.flatMap_append, List.flatMap_singleton]
theorem plOf_len (L : List MDoc) (t : Int) : (plOf L t).length ≤ totT L := by
 induction L with
 | nil => simp [plOf]
 | cons x L ih =>
  have h1 := plUp_len x t x.T.length
  have h2 : plOf (x :: L) t = plUp x t x.T.length ++ plOf L t := rfl
  have h3 : totT (x :: L) = x.T.length + totT L := by simp [totT]
  rw [h2, List.length_append]
  omega
theorem plUp_some {x : MDoc} {t : Int} : plUp x t x.T.length ≠ [] ↔ t ∈ x.T := by
 constructor
 ·intro h
  obtain ⟨p, hp⟩ := List.exists_mem_of_ne_nil _ h
  obtain ⟨s, hs, -⟩ := List.mem_map.1 hp
  obtain ⟨i, h1, h2, -⟩ := spotUp_mem.1 hs
  rw [← h2, List.getD_eq_getElem?_getD, List.getElem?_eq_getElem h1]
  exact List.getElem_mem h1
 ·intro h e
  obtain ⟨i, h1, h2⟩ := List.getElem_of_mem h
  have h3 : ((i : Int), x.S.getD i 0) ∈ spotUp x t x.T.length := spotUp_mem.2 ⟨i, h1, by rw [List.getD_eq_getElem?_getD, List.getElem?_eq_getElem h1]; exact h2, rfl⟩
  have h4 : (x.doc, (i : Int), x.S.getD i 0) ∈ plUp x t x.T.length := List.mem_map.2 ⟨_, h3, rfl⟩
  rw [e] at h4
  cases h4
theorem plOf_some {L : List MDoc} {t : Int} : plOf L t ≠ [] ↔ t ∈ mTerms L := by
 rw [terms_mem]
 induction L with
 | nil => simp [plOf]
 | cons x L ih =>
  have h2 : plOf (x :: L) t = plUp x t x.T.length ++ plOf L t := rfl
  rw [h2]
  constructor
  ·intro h
   by_cases h3 : plUp x t x.T.length = []
   ·rw [h3, List.nil_append] at h
    obtain ⟨y, hy, h4⟩ := ih.1 h
    exact ⟨y, List.mem_cons_of_mem _ hy, h4⟩
   ·exact ⟨x, List.mem_cons_self .., plUp_some.1 h3⟩
  ·rintro ⟨y, hy, h4⟩ e
   obtain ⟨e1, e2⟩ := List.append_eq_nil_iff.1 e
   rcases List.mem_cons.1 hy with rfl | h5
   ·exact plUp_some.2 h4 e1
   ·exact ih.2 ⟨y, h5, h4⟩ e2
def grp1 (l : List Pst) (p : Pl) : List Pst := match l.getLast? with
 | none => [(p.1, [p.2])]
 | some x => if x.1 = p.1 then l.dropLast ++ [(x.1, x.2 ++ [p.2])] else l ++ [(p.1, [p.2])]
theorem grp1_nil (p : Pl) : grp1 [] p = [(p.1, [p.2])] := rfl
theorem grp1_same {P : List Pst} {x : Pst} {p : Pl} (h : x.1 = p.1) : grp1 (P ++ [x]) p = P ++ [(x.1, x.2 ++ [p.2])] := by
 unfold grp1
 rw [List.getLast?_concat]
 simp only [if_pos h, List.dropLast_concat]
theorem grp1_other {P : List Pst} {x : Pst} {p : Pl} (h : x.1 ≠ p.1) : grp1 (P ++ [x]) p = (P ++ [x]) ++ [(p.1, [p.2])] := by
 unfold grp1
 rw [List.getLast?_concat]
 simp only [if_neg h]
theorem last_split : ∀ (l : List Pst), l = [] ∨ ∃ P x, l = P ++ [x] := fun l => by
 rcases List.eq_nil_or_concat l with h | ⟨P, x, h⟩
 ·exact .inl h
 ·exact .inr ⟨P, x, by simpa using h⟩
def grpUp (ps : List Pl) : List Pst := ps.foldl grp1 []
theorem grpUp_next {ps : List Pl} {k : Nat} {p : Pl} (h : ps[k]? = some p) : grpUp (ps.take (k + 1)) = grp1 (grpUp (ps.take k)) p := by
 unfold grpUp
 rw [List.take_add_one, h, List.foldl_append]
 rfl
theorem grp1_len (l : List Pst) (p : Pl) : (grp1 l p).length ≤ l.length + 1 := by
 rcases last_split l with rfl | ⟨P, x, rfl⟩
 ·rw [grp1_nil]; simp
 ·by_cases h : x.1 = p.1
  ·rw [grp1_same h]; simp
  ·rw [grp1_other h]; simp
theorem grp_small (ps : List Pl) : ∀ k, k ≤ ps.length → (grpUp (ps.take k)).length ≤ k ∧ ∀ x ∈ grpUp (ps.take k), x.2.length ≤ k
 | 0, _ => by simp [grpUp]
 | k + 1, hk => by
  obtain ⟨h1, h2⟩ := grp_small ps k (by omega)
  rw [grpUp_next (List.getElem?_eq_getElem (by omega : k < ps.length))]
  refine ⟨by have := grp1_len (grpUp (ps.take k)) ps[k]; omega, fun y hy => ?_⟩
  rcases last_split (grpUp (ps.take k)) with e | ⟨P, x, e⟩
  ·rw [e, grp1_nil] at hy
   rw [List.mem_singleton.1 hy]
   simp
  ·rw [e] at hy h2
   by_cases h : x.1 = (ps[k]).1
   ·rw [grp1_same h] at hy
    rcases List.mem_append.1 hy with hy | hy
    ·have := h2 y (by simp [hy]); omega
    ·have := h2 x (by simp)
     rw [List.mem_singleton.1 hy]
     simp; omega
   ·rw [grp1_other h] at hy
    rcases List.mem_append.1 hy with hy | hy
    ·have := h2 y hy; omega
    ·rw [List.mem_singleton.1 hy]
     simp
theorem grp_doc {P : List Pst} {x : MDoc} {t : Int} (hP : ∀ y ∈ P, y.1 ≠ x.doc) : ∀ k, (plUp x t k).foldl grp1 P = if spotUp x t k = [] then P else P ++ [(x.doc, spotUp x t k)]
 | 0 => by simp [plUp, spotUp]
 | k + 1 => by
  have ih := grp_doc hP (t := t) k
  rw [plUp_next, spotUp]
  split
  ·rw [List.foldl_append, ih]
   simp only [List.foldl_cons, List.foldl_nil]
   rw [if_neg (by simp : ¬ (spotUp x t k ++ [((k : Int), x.S.getD k 0)] = []))]
   by_cases h : spotUp x t k = []
   ·rw [if_pos h, h]
    rcases last_split P with rfl | ⟨Q, y, rfl⟩
    ·rfl
    ·rw [grp1_other (hP y (by simp))]
     rfl
   ·rw [if_neg h, grp1_same rfl]
  ·exact ih
theorem grp_docs {L : List MDoc} (hL : MWF L) (t : Int) : ∀ i, i ≤ L.length → (plOf (L.take i) t).foldl grp1 [] = postUp L t i
 | 0, _ => by simp [plOf, postUp]
 | i + 1, hi => by
  have hx : L[i]? = some (L[i]'(by omega)) := List.getElem?_eq_getElem _
  have ih := grp_docs hL t i (by omega)
  rw [List.take_add_one, hx, Option.toList_some, plOf_append, List.foldl_append, ih, postUp, mD_at hx, grp_doc (fun y hy e => ?_)]
  ·unfold postOne mSpots
   by_cases h : spotUp L[i] t L[i].T.length = []
   ·rw [if_pos h, if_neg (by rw [h]; simp), List.append_nil]
   ·rw [if_neg h, if_pos (List.length_pos_iff.2 h)]
  ·obtain ⟨j, h1, rfl, -⟩ := mposts_from hy
   have := hL.up j i h1 (by omega)
   rw [mD_at hx] at this
   simp only at e
   omega
theorem grp_posts {L : List MDoc} (hL : MWF L) (t : Int) : grpUp (plOf L t) = mPosts L t := by
 have := grp_docs hL t L.length (Nat.le_refl _)
 rw [List.take_length] at this
 exact this
theorem plUp_fit {x : MDoc} (hx : DocOk x) {t : Int} {p : Pl} : ∀ {k : Nat}, k ≤ x.T.length → p ∈ plUp x t k → (0 ≤ p.1 ∧ p.1 ≤ 4294967296) ∧ (0 ≤ p.2.1 ∧ p.2.1 < 4096) ∧ 0 ≤ p.2.2 ∧ p.2.2 ≤ 9223372036854775807 := fun {k} hk h => by
 obtain ⟨s, hs, rfl⟩ := List.mem_map.1 h
 obtain ⟨i, h1, h2, rfl⟩ := spotUp_mem.1 hs
 have h3 := hx.tok (i := i) (by omega)
 have h4 : x.S.getD i 0 ∈ x.S := by
  have := hx.same
  rw [List.getD_eq_getElem?_getD, List.getElem?_eq_getElem (by omega)]
  exact List.getElem_mem _
 have h5 := hx.fit.2 _ h4
 have := hx.few
 exact ⟨hx.doc, ⟨by simp, by simp; omega⟩, h3.2, h5⟩
theorem plOf_fit {L : List MDoc} (hL : MWF L) {t : Int} {p : Pl} (h : p ∈ plOf L t) : (0 ≤ p.1 ∧ p.1 ≤ 4294967296) ∧ (0 ≤ p.2.1 ∧ p.2.1 < 4096) ∧ 0 ≤ p.2.2 ∧ p.2.2 ≤ 9223372036854775807 := by
 obtain ⟨x, hx, h2⟩ := List.mem_flatMap.1 h
 exact plUp_fit (hL.ok x hx) (Nat.le_refl _) h2
theorem lastM_at {L : List MDoc} (h : 0 < L.length) : lastM L = (mD L (L.length - 1)).doc := by
 unfold lastM
 rw [if_neg (by omega)]
theorem lastM_low {L : List MDoc} (hL : MWF L) : -1 ≤ lastM L ∧ lastM L ≤ 4294967296 := by
 unfold lastM
 split
 ·omega
 ·have := (hL.ok _ (mD_mem (by omega : L.length - 1 < L.length))).doc
  omega
theorem mErr_is {L : List MDoc} (hL : MWF L) (x : MDoc) : mErr L x = if L.length = 4096 ∨ 4096 < x.T.length then 2 else if x.doc < lastM L + 1 ∨ 4294967296 < x.doc ∨ x.T.length ≠ x.S.length ∨ badTo x x.T.length = true then 1 else 0 := by
 have h1 := hL.few
 unfold mErr
 by_cases h2 : L.length = 4096 ∨ 4096 < x.T.length
 ·rw [if_pos h2, if_pos (by omega)]
 ·rw [if_neg h2, if_neg (by omega)]
  have h3 : (x.doc < 0 ∨ 4294967296 < x.doc ∨ (0 < L.length ∧ x.doc ≤ (mD L (L.length - 1)).doc)) ↔ (x.doc < lastM L + 1 ∨ 4294967296 < x.doc) := by
   rcases Nat.eq_zero_or_pos L.length with h0 | h0
   ·unfold lastM
    rw [if_pos h0]
    omega
   ·rw [lastM_at h0]
    have := (hL.ok _ (mD_mem (by omega : L.length - 1 < L.length))).doc
    omega
  by_cases h4 : x.doc < lastM L + 1 ∨ 4294967296 < x.doc
  ·have h5 := h3.2 h4
   rw [if_pos (by omega), if_pos (by omega)]
  ·have h5 := fun h => h4 (h3.1 h)
   by_cases h6 : x.T.length ≠ x.S.length
   ·rw [if_pos (by omega), if_pos (by omega)]
   ·rw [if_neg (by omega)]
    by_cases h7 : badTo x x.T.length = true
    ·rw [if_pos h7, if_pos (.inr (.inr (.inr h7)))]
    ·rw [if_neg h7, if_neg (by rintro (h | h | h | h) <;> first | exact h7 h | omega)]
theorem lastM_next {L : List MDoc} {x : MDoc} : lastM (L ++ [x]) = x.doc := by
 rw [lastM_at (by simp), List.length_append, List.length_singleton, Nat.add_sub_cancel, mD_last]
end Go.Proofs.YthcjikpabpgpfaaGreat
namespace Go.Proofs.YthcjikpabpgpfaaGreat
open Go.RowKit Go.Maps Go.WideMaps
def plCells (p : Pl) : List Value := [.int .i64 p.1, .int .i64 p.2.1, .int .i64 p.2.2]
theorem pl_at : ∀ (l : List Pl) (i j : Nat) (p : Pl) (u : Value), l[i]? = some p → (plCells p)[j]? = some u → (l.flatMap plCells)[i * 3 + j]? = some u
 | [], i, j, p, u, h, _ => by simp at h
 | a :: r, 0, j, p, u, h, h2 => by
  simp at h
  subst h
  rw [List.flatMap_cons, List.getElem?_append_left (by have := (List.getElem?_eq_some_iff.1 h2).1; omega)]
  simpa using h2
 | a :: r, i + 1, j, p, u, h, h2 => by
  have hl : (plCells a).length = 3 := rfl
  rw [List.flatMap_cons, List.getElem?_append_right (by omega), hl, show (i + 1) * 3 + j - 3 = i * 3 + j by omega]
  exact pl_at r i j p u (by simpa using h) h2
theorem pl_one (p : Pl) : ∀ u ∈ plCells p, u.oneCell' = true := fun u hu => by
 simp [plCells] at hu
 rcases hu with rfl | rfl | rfl <;> rfl
theorem pl_new {w : World} {g : Nat} {e : TypeId} {p : Pl} (h : Blk w g e #[.int .i64 p.1, .int .i64 p.2.1, .int .i64 p.2.2]) : ∀ (j : Nat) (u : Value), (plCells p)[j]? = some u → w.cell? ((⟨g, 0, none⟩ : Addr).add j) = some u := by
 intro j u hu
 match j with
 | 0 => simp [plCells] at hu; subst hu; exact h.cell 0
 | 1 => simp [plCells] at hu; subst hu; exact h.cell 1
 | 2 => simp [plCells] at hu; subst hu; exact h.cell 2
 | j + 3 => simp [plCells] at hu
def OwnPl (w : World) (base : Nat) (v : Value) (ps : List Pl) : Prop := w.ownsRow base 165 3 v ps.length (ps.flatMap plCells)
theorem OwnPl.at {w : World} {base : Nat} {A : Option Addr} {n c : Nat} {ps : List Pl} (h : OwnPl w base (.slice A n c) ps) (k : Nat) (hk : k < ps.length) :
  ∃ ad p, A = some ad ∧ ps[k]? = some p ∧ w.cell? (ad.add (k * 3)) = some (.int .i64 p.1) ∧ w.cell? ⟨(ad.add (k * 3)).block, (ad.add (k * 3)).off + 1, none⟩ = some (.int .i64 p.2.1) ∧ w.cell? ⟨(ad.add (k * 3)).block, (ad.add (k * 3)).off + 2, none⟩ = some (.int .i64 p.2.2) := by
 unfold OwnPl at h
 have hx : ps[k]? = some (ps[k]'(by omega)) := List.getElem?_eq_getElem _
 rcases h.2 with ⟨_, h0⟩ | ⟨g, cap, cur, h1, _⟩
 ·omega
 ·simp only [Value.slice.injEq] at h1
  obtain ⟨rfl, rfl, rfl⟩ := h1
  have hc := fun j u (hj : (plCells ps[k])[j]? = some u) => h.cells (g := g) rfl (k * 3 + j) u (pl_at ps k j _ u hx hj)
  have c0 := hc 0 _ rfl
  have c1 := hc 1 _ rfl
  have c2 := hc 2 _ rfl
  rw [add_pos' _ _ _ (by omega)] at c1 c2
  exact ⟨_, _, rfl, hx, c0, c1, c2⟩
def anyElem : Value → Option (DataW Unit × List MemPlace) := fun _ => some (.lit (.bool true), [])
theorem pIntLaw : Keyed Tryz.prog 3 := int_keyed Tryz.underlying3
theorem p64 {x : Int} (h : fits64 x) : (Lit.int .i64 x).wf = true := by
 obtain ⟨h1, h2⟩ := h
 simp [Lit.wf, IntKind.min, IntKind.max, IntKind.signed, IntKind.bits]
 omega
theorem p64key {x : Int} (h : fits64 x) : keyOf Tryz.prog 3 (.int .i64 x) = some (.int .i64 x) := Maps.keyOf_int_mk Tryz.underlying3 (p64 h)
theorem zeroPls (w : World) : (zeroValue 154).run Tryz.prog w = .ok (.slice none 0 0) w := by kernel_rfl
theorem v64_inj {c d : Int} (h : Value.int .i64 c = .int .i64 d) : c = d := (Value.int.inj h).2
theorem p64_inj {c d : Int} (h : Lit.int .i64 c = .int .i64 d) : c = d := by injection h
def markD (b : Bool) : DataW Unit := if b then .lit (.bool true) else .nil
structure KeysD (D : DataW Unit) (f : Int → List Pl) : Prop where
 isMap : IsMap D
 at_ : ∀ t : Int, D.atKey (.int .i64 t) .nil = markD (decide (f t ≠ []))
 has : ∀ t : Int, Maps.has D (.int .i64 t) = decide (f t ≠ [])
theorem KeysD.nil : KeysD (.map []) fun _ => [] := ⟨isMap_empty, fun _ => rfl, fun _ => rfl⟩
def plPut (f : Int → List Pl) (t : Int) (p : Pl) : Int → List Pl := fun u => if u = t then f u ++ [p] else f u
theorem KeysD.put {D : DataW Unit} {f : Int → List Pl} (h : KeysD D f) (t : Int) (p : Pl) : KeysD (D.put (.int .i64 t) (.lit (.bool true))) (plPut f t p) := by
 refine ⟨h.isMap.put _ _, fun u => ?_, fun u => ?_⟩
 ·by_cases e : u = t
  ·subst e
   rw [atKey_put_same h.isMap (show WideAt.IsKeyLit (.int .i64 u) from trivial)]
   simp [plPut, markD]
  ·rw [atKey_put_other (fun e2 => e (p64_inj e2)), h.at_]
   simp only [plPut, if_neg e]
 ·by_cases e : u = t
  ·subst e
   rw [has_put_same h.isMap (show WideAt.IsKeyLit (.int .i64 u) from trivial)]
   simp [plPut]
  ·rw [has_put_other (fun e2 => e (p64_inj e2)), h.has]
   simp only [plPut, if_neg e]
structure EntOk (w : World) (mb : Nat) (f : Int → List Pl) (G : Nat → Prop) (x : MapEntry) : Prop where
 own : ∃ t : Int, x.key = .int .i64 t ∧ OwnPl w (mb + 1) x.val (f t)
 inG : ∀ g, x.val.ownBlock = some g → G g
def Apart (u v : Value) : Prop := u.ownBlock = none ∨ u.ownBlock ≠ v.ownBlock
structure PMap (w : World) (mb n : Nat) (f : Int → List Pl) (G : Nat → Prop) : Prop where
 own : ∃ D, w.ownsMap Tryz.prog 3 anyElem mb n D ∧ KeysD D f
 ent : ∀ es clock, w.heap[mb]? = some (.map es clock) → (∀ x ∈ es.toList, EntOk w mb f G x) ∧ ∀ x ∈ es.toList, ∀ y ∈ es.toList, x.key ≠ y.key → Apart x.val y.val
 inG : G mb
theorem PMap.lt {w : World} {mb n : Nat} {f : Int → List Pl} {G : Nat → Prop} (h : PMap w mb n f G) : mb < w.heap.size := by
 obtain ⟨D, h1, _⟩ := h.own
 exact h1.lt
theorem PMap.made (w : World) : PMap (w.alloc (.map #[] 0)) w.heap.size 0 (fun _ => []) fun i => i = w.heap.size where
 own := ⟨_, World.ownsMap_made w _ _ _, KeysD.nil⟩
 ent := fun es clock h => by
  have h1 : (w.alloc (.map #[] 0)).heap[w.heap.size]? = some (.map #[] 0) := heap_alloc_new w _
  rw [h1] at h
  obtain ⟨rfl, -⟩ : #[] = es ∧ 0 = clock := by simpa using h
  simp
 inG := rfl
theorem PMap.keep {w w' : World} {mb n : Nat} {f : Int → List Pl} {G : Nat → Prop} (h : PMap w mb n f G) (hk : ∀ i, G i → w'.heap[i]? = w.heap[i]?) : PMap w' mb n f G where
 own := by
  obtain ⟨D, h1, h2⟩ := h.own
  exact ⟨D, ownsMap_block h1 (hk mb h.inG), h2⟩
 ent := fun es clock e => by
  obtain ⟨h1, h2⟩ := h.ent es clock (by rw [← hk mb h.inG]; exact e)
  refine ⟨fun x hx => ?_, h2⟩
  obtain ⟨⟨t, q1, q2⟩, q3⟩ := h1 x hx
  exact ⟨⟨t, q1, ownsRow_block q2 fun g hg => hk g (q3 g hg)⟩, q3⟩
 inG := h.inG
theorem PMap.lets {w : World} {mb n : Nat} {f g : Int → List Pl} {G G' : Nat → Prop} (h : PMap w mb n f G) (e : ∀ t, g t = f t) (hG : ∀ i, G i → G' i) : PMap w mb n g G' := by
 have : g = f := funext e
 subst this
 exact ⟨h.own, fun es clock hb => by
  obtain ⟨h1, h2⟩ := h.ent es clock hb
  exact ⟨fun x hx => ⟨(h1 x hx).own, fun j hj => hG j ((h1 x hx).inG j hj)⟩, h2⟩, hG _ h.inG⟩
theorem PMap.more {w : World} {mb n n' : Nat} {f : Int → List Pl} {G : Nat → Prop} (h : PMap w mb n f G) (hn : n ≤ n') : PMap w mb n' f G :=
 ⟨by obtain ⟨D, h1, h2⟩ := h.own; exact ⟨D, h1.mono hn, h2⟩, h.ent, h.inG⟩
theorem PMap.step {w : World} {mb n : Nat} {f : Int → List Pl} {G : Nat → Prop} (h : PMap w mb n f G) (hn : n < maxLen) {t : Int} (ht : fits64 t) :
  ∃ v, (Instr.lookup 153 (.map (some mb)) (.int .i64 t) false).run Tryz.prog w = .ok v w ∧ OwnPl w (mb + 1) v (f t) ∧ (∀ g, v.ownBlock = some g → G g ∧ g ≠ mb) ∧
   ∀ (w1 : World) (v' : Value) (p : Pl), w.grownBy w1 v.ownBlock → w1.ownsRow (mb + 1) 165 3 v' ((f t).length + 1) ((f t).flatMap plCells ++ plCells p) → (v'.ownBlock = v.ownBlock ∨ ∃ g, v'.ownBlock = some g ∧ w.heap.size ≤ g) →
    ∃ w2, (Instr.mapUpdate 153 (.map (some mb)) (.int .i64 t) v').run Tryz.prog w1 = .ok () w2 ∧ PMap w2 mb (n + 1) (plPut f t p) (fun i => G i ∨ (w.heap.size ≤ i ∧ i < w2.heap.size)) ∧ w1.grownBy w2 (some mb) := by
 obtain ⟨D, hM, hD⟩ := h.own
 have hM' := hM
 obtain ⟨es, clock, hb, F, hs, rfl⟩ := hM
 obtain ⟨hent, hap⟩ := h.ent es clock hb
 have hlk : ∃ v, (Instr.lookup 153 (.map (some mb)) (.int .i64 t) false).run Tryz.prog w = .ok v w ∧ OwnPl w (mb + 1) v (f t) ∧ (∀ g, v.ownBlock = some g → G g ∧ g ≠ mb) ∧ ∀ x ∈ es.toList, x.key ≠ .int .i64 t → Apart x.val v := by
  rcases Maps.fit_look false pIntLaw Tryz.underlying153 (zeroPls _) hb F (p64key ht) with ⟨hrun, _, hat⟩ | ⟨e0, y, hm0, hk0, hrun, hR, hat, _⟩
  ·have hf : f t = [] := by
    have h1 := hD.at_ t
    rw [hat] at h1
    unfold markD at h1
    split at h1
    ·cases h1
    ·rename_i h2
     simpa using h2
   refine ⟨.slice none 0 0, hrun, by rw [hf]; exact ⟨rfl, .inl ⟨rfl, rfl⟩⟩, fun g hg => (by cases hg), fun x hx _ => ?_⟩
   unfold Apart
   cases x.val.ownBlock with
   | none => exact .inl rfl
   | some g => exact .inr (by simp [Value.ownBlock])
  ·obtain ⟨⟨u, q1, q2⟩, q3⟩ := hent e0 hm0
   have hu : u = t := by rw [hk0] at q1; exact (v64_inj q1).symm
   subst hu
   exact ⟨e0.val, hrun, q2, fun g hg => ⟨q3 g hg, by have := (World.ownsRow.lt q2 g hg).1; omega⟩, fun x hx hne => hap x hx e0 hm0 (by rw [hk0]; exact hne)⟩
 obtain ⟨v, hrun, hov, hvG, hvA⟩ := hlk
 refine ⟨v, hrun, hov, hvG, fun w1 v' p hgr hown hloc => ?_⟩
 have hmb : mb < w.heap.size := h.lt
 have hM1 : w1.ownsMap Tryz.prog 3 anyElem mb n _ := hM'.kept hgr (fun e => (hvG mb e.symm).2 rfl)
 obtain ⟨w2, hrun2, r1, r2⟩ := hM1.update pIntLaw Tryz.underlying153 hn (val := v') (p64key ht) (show anyElem v' = some (.lit (.bool true), []) from rfl)
 have hb1 : w1.heap[mb]? = some (.map es clock) := (hgr.block mb hmb (fun e => (hvG mb e.symm).2 rfl)).trans hb
 obtain ⟨es', clock', hb2, hwho⟩ := stored_who pIntLaw Tryz.underlying153 hb1 F (Nat.lt_of_le_of_lt hs hn) (p64key ht) hrun2
 have hsz1 := hgr.size
 have hsz2 := r2.size
 have hv'2 : w2.ownsRow (mb + 1) 165 3 v' ((f t).length + 1) ((f t).flatMap plCells ++ plCells p) := hown.kept r2 (by
  cases e : v'.ownBlock with
  | none => exact .inl rfl
  | some g => exact .inr (fun e2 => by have := (hown.lt g e).1; cases e2; omega))
 have hold : ∀ x ∈ es.toList, x.key ≠ .int .i64 t → EntOk w2 mb (plPut f t p) (fun i => G i ∨ (w.heap.size ≤ i ∧ i < w2.heap.size)) x ∧ Apart x.val v' ∧ Apart v' x.val := by
  intro x hx hne
  obtain ⟨⟨u, q1, q2⟩, q3⟩ := hent x hx
  have hu : u ≠ t := fun e => hne (by rw [q1, e])
  have hA := hvA x hx hne
  refine ⟨⟨⟨u, q1, ?_⟩, fun g hg => .inl (q3 g hg)⟩, ?_, ?_⟩
  ·unfold plPut
   rw [if_neg hu]
   refine ownsRow_block q2 fun g hg => ?_
   have h1 := World.ownsRow.lt q2 g hg
   have h2 : some g ≠ v.ownBlock := by
    rcases hA with h3 | h3
    ·rw [h3] at hg; cases hg
    ·rw [hg] at h3; exact h3
   exact (r2.block g (by omega) (fun e => by cases e; omega)).trans (hgr.block g h1.2 h2)
  ·rcases hloc with e | ⟨j, e, hj⟩
   ·unfold Apart; rw [e]; exact hA
   ·cases e2 : x.val.ownBlock with
    | none => exact .inl e2
    | some g =>
     refine .inr (fun e3 => ?_)
     have h1 := World.ownsRow.lt q2 g e2
     rw [e, e2] at e3
     cases e3
     omega
  ·rcases hloc with e | ⟨j, e, hj⟩
   ·rcases hA with h3 | h3
    ·cases e4 : v'.ownBlock with
     | none => exact .inl e4
     | some g => exact .inr (by rw [h3, e4]; simp)
    ·exact .inr (by rw [e]; exact fun e4 => h3 e4.symm)
   ·refine .inr (fun e3 => ?_)
    rw [e] at e3
    have h1 := World.ownsRow.lt q2 _ e3.symm
    omega
 refine ⟨w2, hrun2, ⟨⟨_, r1, hD.put t p⟩, fun es2 clock2 hb3 => ?_, .inl h.inG⟩, r2⟩
 obtain ⟨rfl, rfl⟩ : es' = es2 ∧ clock' = clock2 := by rw [hb2] at hb3; simpa using hb3
 have hnew : ∀ x ∈ es'.toList, x.key = .int .i64 t → x.val = v' → EntOk w2 mb (plPut f t p) (fun i => G i ∨ (w.heap.size ≤ i ∧ i < w2.heap.size)) x := fun x _ e1 e2 => by
  refine ⟨⟨t, e1, ?_⟩, fun g hg => ?_⟩
  ·rw [e2]
   unfold plPut OwnPl
   rw [if_pos rfl, List.length_append, List.flatMap_append, List.flatMap_singleton]
   exact hv'2
  ·rw [e2] at hg
   have h1 := (hv'2.lt g hg).2
   rcases hloc with e | ⟨j, e, hj⟩
   ·exact .inl (hvG g (by rw [← e]; exact hg)).1
   ·rw [hg] at e
    cases e
    exact .inr ⟨hj, h1⟩
 refine ⟨fun x hx => ?_, fun x hx y hy hne => ?_⟩
 ·rcases hwho x hx with ⟨h1, h2⟩ | ⟨h1, h2⟩
  ·exact (hold x h1 h2).1
  ·exact hnew x hx h1 h2
 ·rcases hwho x hx with ⟨h1, h2⟩ | ⟨h1, h2⟩ <;> rcases hwho y hy with ⟨h3, h4⟩ | ⟨h3, h4⟩
  ·exact hap x h1 y h3 hne
  ·rw [h4]; exact (hold x h1 h2).2.1
  ·rw [h2]; exact (hold y h3 h4).2.2
  ·exact absurd (h1.trans h3.symm) hne
theorem PMap.keys {w : World} {mb n : Nat} {f : Int → List Pl} {D : DataW Unit} (hM : w.ownsMap Tryz.prog 3 anyElem mb n D) (hD : KeysD D f) {K : List Int} (hK : K.Pairwise (· < ·)) (hm : ∀ t, t ∈ K ↔ f t ≠ []) {ss : List Int} (hP : ss.Perm (intKeys D)) : ss.mergeSort leI = K := by
 have hc : CollectedI D (fun _ => false) K := by
  refine ⟨hK.imp fun {a b} h => by omega, fun x => ?_⟩
  rw [hD.has, hm]
  simp
 have hp2 := hc.perm hM pIntLaw Tryz.underlying3 (fun _ => rfl)
 rw [mergeSort_of_perm_i hP, ← mergeSort_of_perm_i hp2]
 exact List.mergeSort_of_pairwise (hK.imp fun {a b} h => by simp; omega)
def AddOut (M : World → (Nat → Prop) → Nat → List MDoc → Prop) (w : World) (F : Nat → Prop) (b : Nat) (L : List MDoc) (x : MDoc) (e : Ending) (w' : World) : Prop := e = .returned (.int .i64 (mErr L x)) ∧ ∃ F', M w' F' b (mAdd L x) ∧ Kept F w w' ∧ ∀ i, F' i → F i ∨ w.heap.size ≤ i
def M0 (w : World) (F : Nat → Prop) (b : Nat) (L : List MDoc) : Prop :=
 F b ∧ (∀ i, F i → i < w.heap.size) ∧ ∃ mb, Blk w b 156 #[.map (some mb), .int .i64 (L.length : Int), .int .i64 (lastM L + 1)] ∧ PMap w mb (totT L) (plOf L) fun i => F i ∧ i ≠ b
theorem M0.keep {w w' : World} {F : Nat → Prop} {b : Nat} {L : List MDoc} (h : M0 w F b L) (hk : ∀ i, F i → w'.heap[i]? = w.heap[i]?) (hs : w.heap.size ≤ w'.heap.size) : M0 w' F b L := by
 obtain ⟨h1, h2, mb, h3, h4⟩ := h
 exact ⟨h1, fun i hi => Nat.lt_of_lt_of_le (h2 i hi) hs, mb, (hk b h1).trans h3, h4.keep fun i hi => hk i hi.1⟩
theorem m0New_any (w : World) : Calls Tryz.prog 74 #[] w fun e w' => ∃ b F, e = .returned (.pointer (some ⟨b, 0, none⟩)) ∧ Below w.heap.size w w' ∧ M0 w' F b [] ∧ ∀ i, F i → w.heap.size ≤ i := by
 have hmm := @run_makeMap Tryz.prog
 go_enter Tryz.func74, Tryz.ntmps74
 go_wp2
 clear hmm
 go_ret
 refine ⟨w.heap.size + 1, fun i => i = w.heap.size ∨ i = w.heap.size + 1, rfl, ((Below.refl _ _).alloc (Nat.le_refl _) _).alloc (by simp) _, ⟨.inr rfl, fun i hi => by simp; omega, w.heap.size, ?_, ?_⟩, fun i hi => by omega⟩
 ·have h1 := Blk.new (w.alloc (.map #[] 0)) 156 #[.map (some w.heap.size), .int .i64 0, .int .i64 0]
  rw [World.size_alloc] at h1
  exact h1
 ·have h1 := PMap.made w
  refine ((h1.keep (w' := (w.alloc (.map #[] 0)).alloc (.cells #[.map (some w.heap.size), .int .i64 0, .int .i64 0] 156)) fun i hi => ?_).lets (fun t => rfl) (fun i hi => ⟨.inl hi, by omega⟩)).more (by simp [totT])
  exact Below.heap_alloc _ _ i (by subst hi; simp)
def mlastS (x : MDoc) (i : Nat) : Int := if i = 0 then -1 else x.S.getD (i - 1) 0
theorem badAt_test (x : MDoc) (i : Nat) (hl : badTo x i = false) : badAt x i = (decide (x.T.getD i 0 < 0) || decide (x.S.getD i 0 ≤ mlastS x i)) := by
 have h1 : 0 < i → 0 ≤ x.S.getD (i - 1) 0 := fun h => (badAt_iff.1 (badTo_iff.1 hl (i - 1) (by omega))).2.1
 unfold badAt mlastS
 obtain ⟨a, ha⟩ : ∃ a, a = x.T.getD i 0 := ⟨_, rfl⟩
 obtain ⟨b, hb⟩ : ∃ b, b = x.S.getD i 0 := ⟨_, rfl⟩
 obtain ⟨c, hc⟩ : ∃ c, c = x.S.getD (i - 1) 0 := ⟨_, rfl⟩
 rw [← ha, ← hb, ← hc]
 rw [← hc] at h1
 clear ha hb hc hl
 rw [Bool.eq_iff_iff]
 simp only [Bool.or_eq_true, Bool.and_eq_true, decide_eq_true_eq]
 split <;> omega
theorem m0Spots_any {w : World} {A B : Option Addr} {n m c d : Nat} {x : MDoc} (hT : IntsIn w A n x.T) (hS : IntsIn w B m x.S) : Calls Tryz.prog 126 #[.slice A n c, .slice B m d] w fun e w' => e = .returned (.bool (decide (n = m ∧ badTo x n = false))) ∧ ∃ q, w' = w.drewN q := by
 have HT := Lib.hid hT
 have HS := Lib.hid hS
 have hn63 := hT.1
 have hm63 := hS.1
 unfold maxLen at hn63 hm63
 clear hT hS
 go_enter Tryz.func126, Tryz.ntmps126
 by_cases hnm : n = m
 ·subst hnm
  have e1 : ((n : Int) != (n : Int)) = false := by simp
  go_wp2
  go_loopw [5, 15] (fun lv iv wr => ∃ i q : Nat, i ≤ n ∧ lv = .int .i64 (mlastS x i) ∧ iv = .int .i64 i ∧ wr = w.drewN q ∧ badTo x i = false) (fun _ iv _ => n - (Go.RowKit.intOf iv).toNat)
  case atStart => exact ⟨0, 0, by omega, rfl, rfl, rfl, rfl⟩
  case round =>
   obtain ⟨i, q, hi, rfl, rfl, hwr, hbad⟩ := hrel
   have HWR := Lib.hid hwr
   have HBAD := Lib.hid hbad
   rcases Nat.lt_or_ge i n with hlt | hge
   ·have d1 : decide ((i : Int) < (n : Int)) = true := by simpa using hlt
    have p0 : (0 : Int) ≤ (i : Int) := by omega
    have p1 : (i : Int) < (n : Int) := by omega
    have hw5 : IntKind.i64.wrap ((i : Int) + 1) = (i : Int) + 1 := IntWalk.i64_in _ (by omega)
    obtain ⟨pa, y, rfl, hy, cy, -, -⟩ := HT.out.at i hlt
    obtain ⟨pb, z, rfl, hz, cz, -, -⟩ := HS.out.at i hlt
    have HB1 : Hid (badTo x (i + 1) = (decide (y < 0) || decide (z ≤ mlastS x i))) := Lib.hid (by
     have h1 : x.T.getD i 0 = y := by rw [List.getD_eq_getElem?_getD, hy]; rfl
     have h2 : x.S.getD i 0 = z := by rw [List.getD_eq_getElem?_getD, hz]; rfl
     rw [badTo, hbad, badAt_test x i hbad, h1, h2]
     rfl)
    have HL : Hid (mlastS x (i + 1) = z) := Lib.hid (by
     unfold mlastS
     rw [if_neg (by omega), Nat.add_sub_cancel, List.getD_eq_getElem?_getD, hz]
     rfl)
    obtain ⟨l, hl⟩ : ∃ l, l = mlastS x i := ⟨_, rfl⟩
    rw [← hl] at HB1 ⊢
    have cy' : wr.cell? (pa.add i) = some (.int .i64 y) := by rw [hwr]; exact cy
    have cz' : wr.cell? (pb.add i) = some (.int .i64 z) := by rw [hwr]; exact cz
    clear hy hz hwr hbad cy cz hl
    by_cases h1 : y < 0
    ·have d2 : decide (y < 0) = true := by simpa using h1
     have HE : Hid (badTo x n = true) := Lib.hid (by
      have h3 : badTo x (i + 1) = true := by rw [HB1.out, d2]; rfl
      cases h4 : badTo x n with
      | true => rfl
      | false => rw [badTo_iff.2 fun j hj => badTo_iff.1 h4 j (by omega)] at h3; cases h3)
     go_wp2
     go_ret
     exact ⟨by simp [HE.out], q, HWR.out⟩
    ·have d2 : decide (y < 0) = false := by simpa using h1
     by_cases h2 : z ≤ l
     ·have d3 : decide (z ≤ l) = true := by simpa using h2
      have HE : Hid (badTo x n = true) := Lib.hid (by
       have h3 : badTo x (i + 1) = true := by rw [HB1.out, d2, d3]; rfl
       cases h4 : badTo x n with
       | true => rfl
       | false => rw [badTo_iff.2 fun j hj => badTo_iff.1 h4 j (by omega)] at h3; cases h3)
      go_wp2
      go_ret
      exact ⟨by simp [HE.out], q, HWR.out⟩
     ·have d3 : decide (z ≤ l) = false := by simpa using h2
      have HE : Hid (badTo x (i + 1) = false) := Lib.hid (by rw [HB1.out, d2, d3]; rfl)
      go_wp2
      go_roundw
      case rel => exact ⟨i + 1, q, by omega, by rw [HL.out], by go_num, HWR.out, HE.out⟩
      case measure => simp [Go.RowKit.intOf]; omega
   ·obtain rfl : i = n := by omega
    have hlz : ¬ ((i : Int) < (i : Int)) := by omega
    clear hwr hbad
    go_wp2
    go_ret
    exact ⟨by simp [HBAD.out], q, HWR.out⟩
 ·have e1 : ((n : Int) != (m : Int)) = true := by simp; omega
  go_wp2
  go_ret
  exact ⟨by simp [hnm], 0, rfl⟩
theorem zero_add' (g k : Nat) : (⟨g, 0, none⟩ : Addr).add k = ⟨g, k, none⟩ := by
 unfold Addr.add
 split
 ·rename_i h0; rw [h0]
 ·simp
theorem own_setN {w : World} {base : Nat} {e : TypeId} {size : Nat} {pa : Addr} {n c m : Nat} {xs : List Value} (h : w.ownsRow base e size (.slice (some pa) n c) m xs) (k : Nat) (u : Value) : (w.setCell (pa.add k) u).ownsRow base e size (.slice (some pa) n c) m (xs.set k u) := by
 refine ⟨by rw [List.length_set]; exact h.1, ?_⟩
 rcases h.2 with ⟨h1, _⟩ | ⟨g, cap, cur, h1, hb, hblk, hnc, hcm, hcs, hx⟩
 ·cases h1
 ·simp only [Value.slice.injEq, Option.some.injEq] at h1
  obtain ⟨rfl, rfl, rfl⟩ := h1
  rw [zero_add']
  have hB : Blk w g e cur := hblk
  refine .inr ⟨g, _, cur.setIfInBounds k u, rfl, hb, hB.set_ k u, hnc, hcm, by simpa using hcs, ?_⟩
  rw [← hx, Array.toList_setIfInBounds, List.take_set]
theorem own_frozen {w : World} {base : Nat} {e : TypeId} {size : Nat} {pa : Addr} {n c m : Nat} {xs : List Value} (h : w.ownsRow base e size (.slice (some pa) n c) m xs) (k : Nat) : w.frozen? (pa.add k) = false := by
 rcases h.2 with ⟨h1, _⟩ | ⟨g, cap, cur, h1, hb, hblk, _⟩
 ·cases h1
 ·simp only [Value.slice.injEq, Option.some.injEq] at h1
  obtain ⟨rfl, rfl, rfl⟩ := h1
  rw [zero_add']
  exact Blk.frozen (t := e) (cs := cur) hblk k
theorem own_cellN {w : World} {base : Nat} {e : TypeId} {size : Nat} {pa : Addr} {n c m : Nat} {xs : List Value} (h : w.ownsRow base e size (.slice (some pa) n c) m xs) {k : Nat} {u : Value} (hk : xs[k]? = some u) : w.cell? (pa.add k) = some u := by
 have h2 := h
 rcases h.2 with ⟨h1, _⟩ | ⟨g, cap, cur, h1, hb, hblk, _⟩
 ·cases h1
 ·simp only [Value.slice.injEq, Option.some.injEq] at h1
  obtain ⟨rfl, rfl, rfl⟩ := h1
  exact h2.cells (g := g) rfl k u hk
theorem posts_spots_ne : (64 : TypeId) ≠ 62 := by decide
structure PostB (w : World) (base : Nat) (v vs : Value) (P : List Pst) (x : Pst) : Prop where
 fit : fits64 x.1 ∧ ∀ s ∈ x.2, fits64 s.1 ∧ fits64 s.2
 spots : w.ownsRow base 64 2 vs x.2.length (x.2.flatMap twoCells)
 row : ∃ R : List (Int × Value), R.length = P.length ∧ w.ownsRow base 62 2 v (P.length + 1) (R.flatMap docCells ++ docCells (x.1, vs)) ∧
  ∀ (i : Nat) (p : Int × Value) (y : Pst), R[i]? = some p → P[i]? = some y → PostAt w y p fun i => base ≤ i ∧ v.ownBlock ≠ some i ∧ vs.ownBlock ≠ some i
section
variable {w w' : World} {base : Nat} {v vs v' vs' : Value} {P L : List Pst} {x : Pst}
theorem PostB.keep (h : PostB w base v vs P x) (hb : ∀ i, base ≤ i → i < w.heap.size → w'.heap[i]? = w.heap[i]?) (hs : w.heap.size ≤ w'.heap.size) : PostB w' base v vs P x := by
 obtain ⟨R, h1, h2, h3⟩ := h.row
 exact ⟨h.fit, ownsRow_block h.spots fun g hg => hb g (h.spots.lt g hg).1 (h.spots.lt g hg).2, R, h1, ownsRow_block h2 fun g hg => hb g (h2.lt g hg).1 (h2.lt g hg).2,
  fun i p y e1 e2 => (h3 i p y e1 e2).mono (fun j hj hf => ⟨hb j hf.1 hj, hf⟩) hs⟩
theorem PostB.below (h : PostB w base v vs P x) (hb : Below w.heap.size w w') : PostB w' base v vs P x := h.keep (fun i _ hi => hb.block i hi) hb.size
theorem PostB.apart (h : PostB w base v vs P x) : ∀ g, vs.ownBlock = some g → v.ownBlock ≠ some g := by
 obtain ⟨R, h1, h2, h3⟩ := h.row
 exact own_row_ne h.spots h2 posts_spots_ne
theorem PostB.posts (h : PostB w base v vs P x) (h63 : x.2.length ≤ maxLen) : PostsO w base v (P ++ [x]) := by
 have hap := h.apart
 obtain ⟨R, h1, h2, h3⟩ := h.row
 refine ⟨R ++ [(x.1, vs)], by simp [h1], by simpa using h2, fun i p y e1 e2 => ?_⟩
 rcases Nat.lt_or_ge i P.length with hi | hi
 ·rw [List.getElem?_append_left (by omega)] at e1 e2
  exact (h3 i p y e1 e2).mono (fun j _ hf => ⟨rfl, hf.1, hf.2.1⟩) (Nat.le_refl _)
 ·have hlt := (List.getElem?_eq_some_iff.1 e2).1
  simp at hlt
  obtain rfl : i = P.length := by omega
  rw [List.getElem?_append_right (by omega)] at e1 e2
  simp [h1] at e1 e2
  subst e1 e2
  have hsp := h.spots
  obtain ⟨A, c, rfl⟩ := own_slice hsp
  refine ⟨rfl, h.fit.1, A, c, rfl, rowCap_le hsp, PairsIn.ownTwo hsp rfl h63 h.fit.2, fun ad e _ => ?_⟩
  have := hsp.lt ad.block (by rw [e]; rfl)
  exact ⟨this.2, this.1, hap _ (by rw [e]; rfl)⟩
theorem PostB.of_push {R : List (Int × Value)} {d : Int} (hd : fits64 d) (h0 : R.length = L.length) (h2 : ∀ (i : Nat) (p : Int × Value) (x : Pst), R[i]? = some p → L[i]? = some x → PostAt w x p fun i => base ≤ i ∧ v.ownBlock ≠ some i)
  (ho : w'.ownsRow base 62 2 v' (L.length + 1) (R.flatMap docCells ++ docCells (d, .slice none 0 0))) (hg : w.grownBy w' v.ownBlock) (hloc : v'.ownBlock = v.ownBlock ∨ v'.ownBlock = some w.heap.size) : PostB w' base v' (.slice none 0 0) L (d, []) := by
 refine ⟨⟨hd, by simp⟩, ⟨rfl, .inl ⟨rfl, rfl⟩⟩, R, h0, ho, fun i q y e1 e2 => (h2 i q y e1 e2).mono (fun i hi hf => ⟨hg.block i hi (fun e => hf.2 e.symm), hf.1, ?_, by simp [Value.ownBlock]⟩) hg.size⟩
 rcases hloc with e | e
 ·rw [e]; exact hf.2
 ·rw [e]
  intro e2
  have := Option.some.inj e2
  omega
theorem PostB.at (h : PostB w base v vs P x) : ∃ pa c, v = .slice (some pa) (P.length + 1) c ∧ w.cell? (pa.add (P.length * 2)) = some (.int .i64 x.1) ∧ w.cell? ⟨(pa.add (P.length * 2)).block, (pa.add (P.length * 2)).off + 1, none⟩ = some vs ∧ w.frozen? ⟨(pa.add (P.length * 2)).block, (pa.add (P.length * 2)).off + 1, none⟩ = false := by
 obtain ⟨R, h1, h2, h3⟩ := h.row
 obtain ⟨A, c, rfl⟩ := own_slice h2
 cases A with
 | none =>
  rcases h2.2 with ⟨_, h4⟩ | ⟨g, cap, cur, h4, _⟩
  ·omega
  ·cases h4
 | some pa =>
  have hl : (R.flatMap docCells).length = P.length * 2 := by rw [doc_len, h1]
  have c0 := own_cellN h2 (k := P.length * 2) (u := .int .i64 x.1) (by rw [List.getElem?_append_right (by omega), hl, Nat.sub_self]; rfl)
  have c1 := own_cellN h2 (k := P.length * 2 + 1) (u := vs) (by rw [List.getElem?_append_right (by omega), hl, Nat.add_sub_cancel_left]; rfl)
  have f1 := own_frozen h2 (P.length * 2 + 1)
  rw [add_pos' _ _ _ (by omega)] at c1 f1
  exact ⟨pa, c, rfl, c0, c1, f1⟩
theorem PostB.spot {w1 : World} {pa : Addr} {n c : Nat} {s : Int × Int} (h : PostB w base (.slice (some pa) n c) vs P x) (hg : w.grownBy w1 vs.ownBlock) (ho : w1.ownsRow base 64 2 vs' (x.2.length + 1) (x.2.flatMap twoCells ++ twoCells s))
  (hl : vs'.ownBlock = vs.ownBlock ∨ vs'.ownBlock = some w.heap.size) (hs : fits64 s.1 ∧ fits64 s.2) :
  w1.cell? ⟨(pa.add (P.length * 2)).block, (pa.add (P.length * 2)).off + 1, none⟩ = some vs ∧ w1.frozen? ⟨(pa.add (P.length * 2)).block, (pa.add (P.length * 2)).off + 1, none⟩ = false ∧ base ≤ (pa.add (P.length * 2)).block ∧
  PostB (w1.setCell ⟨(pa.add (P.length * 2)).block, (pa.add (P.length * 2)).off + 1, none⟩ vs') base (.slice (some pa) n c) vs' P (x.1, x.2 ++ [s]) := by
 have hap := h.apart
 obtain ⟨R, h1, h2, h3⟩ := h.row
 have hpb : (pa.add (P.length * 2)).block = pa.block := by unfold Addr.add; split <;> rfl
 have hvb : (Value.slice (some pa) n c).ownBlock = some pa.block := rfl
 have hlt := h2.lt pa.block hvb
 have hl2 : (R.flatMap docCells).length = P.length * 2 := by rw [doc_len, h1]
 have hr1 : w1.ownsRow base 62 2 (.slice (some pa) n c) (P.length + 1) (R.flatMap docCells ++ docCells (x.1, vs)) := h2.kept hg (.inr (fun e => hap pa.block (by rw [← e, hvb]) hvb))
 have c1 := own_cellN hr1 (k := P.length * 2 + 1) (u := vs) (by rw [List.getElem?_append_right (by omega), hl2, Nat.add_sub_cancel_left]; rfl)
 have f1 := own_frozen hr1 (P.length * 2 + 1)
 have hs1 := own_setN hr1 (P.length * 2 + 1) vs'
 have hne : ∀ g, vs'.ownBlock = some g → g ≠ pa.block := fun g hgv e => by
  subst e
  exact own_row_ne ho hr1 posts_spots_ne pa.block hgv hvb
 have hset : (R.flatMap docCells ++ docCells (x.1, vs)).set (P.length * 2 + 1) vs' = R.flatMap docCells ++ docCells (x.1, vs') := by
  rw [List.set_append_right _ _ (by omega), hl2, Nat.add_sub_cancel_left]
  rfl
 rw [hset] at hs1
 rw [add_pos' _ _ _ (by omega)] at c1 f1 hs1
 refine ⟨c1, f1, by rw [hpb]; exact hlt.1, ⟨⟨h.fit.1, fun y hy => ?_⟩, ?_, R, h1, hs1, fun i p y e1 e2 => ?_⟩⟩
 ·rcases List.mem_append.1 hy with hy | hy
  ·exact h.fit.2 y hy
  ·rw [List.mem_singleton.1 hy]; exact hs
 ·rw [List.length_append, List.flatMap_append, List.flatMap_singleton]
  exact ownsRow_block ho fun g hgv => heap_setCell_other _ _ _ (by rw [hpb]; exact hne g hgv)
 ·refine (h3 i p y e1 e2).mono (fun j hj hf => ⟨?_, hf.1, hf.2.1, ?_⟩) (by rw [size_setCell']; exact hg.size)
  ·refine (heap_setCell_other _ _ _ ?_).trans (hg.block j hj (fun e => hf.2.2 e.symm))
   rw [hpb]
   intro e
   exact hf.2.1 (by rw [hvb, e])
  ·rcases hl with e | e
   ·rw [e]; exact hf.2.2
   ·rw [e]
    intro e2
    have := Option.some.inj e2
    omega
end
end Go.Proofs.YthcjikpabpgpfaaGreat
