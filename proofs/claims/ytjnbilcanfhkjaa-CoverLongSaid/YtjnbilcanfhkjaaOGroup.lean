/- A map of one's own from numbers to rows of numbers: what it holds, which blocks are its own, one number more; its keys in order. -/
import Derived.Test.YtjnbilcanfhkjaaOSeq
import Derived.Test.YtjnbilcanfhkjaaORange
import Derived.Maps.OwnRows
import Derived.Maps.GroupsBeside
import Derived.Lib.SlKeysI
namespace Go.Proofs.Ytjnbilcanfhkjaa
open Go.RowKit Go.Maps Go.WideMaps

abbrev grpAt (w : World) (mb n : Nat) (D : DataW Unit) : Prop := w.ownsGroups Try.prog 3 (mb + 1) 3 .i64 mb n D
/-- Such a map; its block and its rows' are among G. -/
structure Grp (w : World) (mb n : Nat) (D : DataW Unit) (G : Nat → Prop) : Prop where
  own : grpAt w mb n D
  shun : w.Shuns mb fun i => ¬ G i
  inG : G mb
theorem Grp.lt {w : World} {mb n : Nat} {D : DataW Unit} {G : Nat → Prop} (h : Grp w mb n D G) : mb < w.heap.size := by
  obtain ⟨es, clock, hb, _⟩ := h.own
  exact (Array.getElem?_eq_some_iff.1 hb).1
theorem Grp.grown {w w' : World} {mb n : Nat} {D : DataW Unit} {G : Nat → Prop} {row : Option Nat} (h : Grp w mb n D G) (hg : w.grownBy w' row) (hr : ∀ j, row = some j → ¬ G j) : Grp w' mb n D G :=
  ⟨h.own.kept hg (fun e => hr mb e.symm h.inG) (h.shun.rowsOff hr), h.shun.kept hg h.lt (fun e => hr mb e.symm h.inG), h.inG⟩
theorem Grp.below {w w' : World} {mb n : Nat} {D : DataW Unit} {G : Nat → Prop} (h : Grp w mb n D G) (hb : Below w.heap.size w w') : Grp w' mb n D G :=
  h.grown (row := none) ⟨hb.os, hb.tape, hb.output, hb.size, fun k hk _ => hb.block k hk⟩ (fun j e => by cases e)
theorem Grp.putObj {w : World} {mb n : Nat} {D : DataW Unit} {G : Nat → Prop} (h : Grp w mb n D G) {l : Nat} (hl : ¬ G l) (o : Obj) : Grp (w.putObj l o) mb n D G :=
  h.grown (row := some l) ⟨rfl, rfl, rfl, by simp, fun k _ hne => World.putObj_heap_other (fun e => hne (by rw [e]))⟩ (fun j e => by cases e; exact hl)
theorem Grp.made (w : World) : Grp (w.alloc (.map #[] 0)) w.heap.size 0 (.map []) fun i => i = w.heap.size :=
  ⟨World.ownsGroups_made w _ _ _ _, World.Shuns_made w _, rfl⟩

theorem intLaw : Keyed Try.prog 3 := int_keyed Try.underlying3
theorem wf64 {x : Int} (h : fits64 x) : (Lit.int .i64 x).wf = true := by
  obtain ⟨h1, h2⟩ := h
  simp [Lit.wf, IntKind.min, IntKind.max, IntKind.signed, IntKind.bits]
  omega
theorem i64key {x : Int} (h : fits64 x) : keyOf Try.prog 3 (.int .i64 x) = some (.int .i64 x) := Maps.keyOf_int_mk Try.underlying3 (wf64 h)
theorem zeroInts (w : World) : (zeroValue 24).run Try.prog w = .ok (.slice none 0 0) w := by kernel_rfl

/-- A row of numbers as a map's datum. -/
def rowD (zs : List Int) : DataW Unit := if zs = [] then .nil else .slice (ChangeShapes.lits .i64 zs) []
theorem lits_inj {a b : List Int} (h : (ChangeShapes.lits .i64 a : List (DataW Unit)) = ChangeShapes.lits .i64 b) : a = b := by
  unfold ChangeShapes.lits at h
  exact List.map_inj_right (fun x y hxy => by simpa using hxy) |>.1 h
theorem rowD_inv {w : World} {base : Nat} {e : TypeId} {v : Value} {zs zs' : List Int} (ho : w.ownsInts base e .i64 v zs) (h : rowD zs' = rowDatum .i64 v zs) : zs = zs' := by
  rcases ho.datum (H := Unit) with ⟨h1, rfl⟩ | h1
  · rw [h1] at h
    unfold rowD at h
    split at h
    · rename_i h2; exact h2.symm
    · cases h
  · rw [h1] at h
    unfold rowD at h
    split at h
    · cases h
    · injection h with h2
      exact (lits_inj h2).symm
theorem rowD_new {w : World} {base : Nat} {e : TypeId} {v : Value} {zs : List Int} (ho : w.ownsInts base e .i64 v zs) (h : zs ≠ []) : rowDatum .i64 v zs = rowD zs := by
  rw [ho.datum_pos h]
  unfold rowD
  rw [if_neg h]

/-- The look-up at a number: the row, what it holds; and a store of that row with one number more. -/
theorem Grp.step {w : World} {mb n : Nat} {D : DataW Unit} {G : Nat → Prop} (h : Grp w mb n D G) (hn : n < maxLen) {t : Int} (ht : fits64 t) :
    ∃ v zs, (Instr.lookup 51 (.map (some mb)) (.int .i64 t) false).run Try.prog w = .ok v w ∧ D.atKey (.int .i64 t) .nil = rowDatum .i64 v zs ∧ w.ownsInts (mb + 1) 3 .i64 v zs ∧ zs.length ≤ n ∧ (∀ g, v.ownBlock = some g → G g) ∧
      ∀ (w1 : World) (v' : Value) (x : Int), fits64 x → w.grownBy w1 v.ownBlock → w1.ownsRow (mb + 1) 3 1 v' (zs.length + 1) (zs.map (Value.int .i64) ++ [.int .i64 x]) → (v'.ownBlock = v.ownBlock ∨ ∃ g, v'.ownBlock = some g ∧ w.heap.size ≤ g) →
        ∃ w2, (Instr.mapUpdate 51 (.map (some mb)) (.int .i64 t) v').run Try.prog w1 = .ok () w2 ∧ Grp w2 mb (n + 1) (D.put (.int .i64 t) (rowD (zs ++ [x]))) (fun i => G i ∨ (w.heap.size ≤ i ∧ i < w2.heap.size)) ∧ w1.grownBy w2 (some mb) := by
  obtain ⟨v, zs, hrun, hat, hoi, hzl, hback⟩ := h.own.at intLaw Try.underlying51 (zeroInts _) hn (i64key ht)
  have hvG : ∀ g, v.ownBlock = some g → G g := fun g hg => by
    obtain ⟨es, clock, hb, F, _⟩ := h.own
    rcases Maps.fit_look false intLaw Try.underlying51 (zeroInts _) hb F (i64key ht) with ⟨hrun', _, _⟩ | ⟨e0, y, hm0, _, hrun', _, _, _⟩
    · rw [hrun] at hrun'
      obtain rfl : v = .slice none 0 0 := by simpa using hrun'
      cases hg
    · rw [hrun] at hrun'
      obtain rfl : v = e0.val := by simpa using hrun'
      exact Classical.not_not.1 (h.shun es clock hb e0 hm0 g hg)
  refine ⟨v, zs, hrun, hat, hoi, hzl, hvG, fun w1 v' x hx hgr hown hloc => ?_⟩
  have hown' : w1.ownsInts (mb + 1) 3 .i64 v' (zs ++ [x]) := by
    refine ⟨by simpa using hown, fun z hz => ?_⟩
    rcases List.mem_append.1 hz with hz | hz
    · exact hoi.2 z hz
    · rw [List.mem_singleton.1 hz]; exact wf64 hx
  obtain ⟨w2, hrun2, r1, r2⟩ := hback w1 v' (zs ++ [x]) hgr hown' (by simp; omega) hloc
  rw [rowD_new hown' (by simp)] at r1
  refine ⟨w2, hrun2, ⟨r1, ?_, .inl h.inG⟩, r2⟩
  obtain ⟨es, clock, hb, F, hs, _, hbb, _⟩ := h.own
  have hblt : mb < w.heap.size := (Array.getElem?_eq_some_iff.1 hb).1
  have hb1 : w1.heap[mb]? = some (.map es clock) := (hgr.block mb hblt (fun e1 => by have := (hoi.1.lt mb e1.symm).1; omega)).trans hb
  obtain ⟨es', clock', hb2, hwho⟩ := stored_who intLaw Try.underlying51 hb1 F (Nat.lt_of_le_of_lt hs hn) (i64key ht) hrun2
  intro es2 clock2 hb2' y hy g hyg hno
  obtain ⟨rfl, rfl⟩ : es' = es2 ∧ clock' = clock2 := by rw [hb2] at hb2'; simpa using hb2'
  rcases hwho y hy with ⟨hy0, _⟩ | ⟨_, hval⟩
  · exact h.shun es clock hb y hy0 g hyg fun hG => hno (.inl hG)
  · rw [hval] at hyg
    have hlt := (hown.lt g hyg).2
    have hsz := r2.size
    rcases hloc with h1 | ⟨g', h1, h2⟩
    · exact hno (.inl (hvG g (by rw [← h1]; exact hyg)))
    · rw [hyg] at h1
      cases h1
      exact hno (.inr ⟨h2, by omega⟩)

theorem i64lit_inj {c d : Int} (h : Lit.int .i64 c = .int .i64 d) : c = d := by injection h

/-- The datum holds these rows. -/
structure SelMap (D : DataW Unit) (f : Int → List Int) : Prop where
  isMap : IsMap D
  at_ : ∀ t : Int, D.atKey (.int .i64 t) .nil = rowD (f t)
  has : ∀ t : Int, Maps.has D (.int .i64 t) = decide (f t ≠ [])
theorem SelMap.nil : SelMap (.map []) fun _ => [] := ⟨isMap_empty, fun _ => rfl, fun _ => rfl⟩
theorem SelMap.put {D : DataW Unit} {f g : Int → List Int} (h : SelMap D f) (t x : Int) (hg : ∀ u, g u = if u = t then f u ++ [x] else f u) : SelMap (D.put (.int .i64 t) (rowD (f t ++ [x]))) g := by
  refine ⟨h.isMap.put _ _, fun u => ?_, fun u => ?_⟩
  · rw [hg]
    by_cases e : u = t
    · subst e
      rw [atKey_put_same h.isMap (show WideAt.IsKeyLit (.int .i64 u) from trivial), if_pos rfl]
    · rw [atKey_put_other (fun e2 => e (i64lit_inj e2)), if_neg e, h.at_]
  · rw [hg]
    by_cases e : u = t
    · subst e
      rw [has_put_same h.isMap (show WideAt.IsKeyLit (.int .i64 u) from trivial), if_pos rfl]
      simp
    · rw [has_put_other (fun e2 => e (i64lit_inj e2)), if_neg e, h.has]
theorem sel_snoc (ps : List (Int × Int)) (t x u : Int) : sel (ps ++ [(t, x)]) u = if u = t then sel ps u ++ [x] else sel ps u := by
  rw [sel_append]
  by_cases h : u = t
  · subst h
    rw [if_pos rfl]
    simp [sel]
  · have h2 : t ≠ u := fun e => h e.symm
    rw [if_neg h]
    simp [sel, h2]
theorem SelMap.congr {D : DataW Unit} {f g : Int → List Int} (h : SelMap D f) (e : ∀ t, g t = f t) : SelMap D g := ⟨h.isMap, fun t => by rw [e]; exact h.at_ t, fun t => by rw [e]; exact h.has t⟩

/-- The numbers below N that have a row. -/
def keysUp (f : Int → List Int) (N : Nat) : List Int := ((List.range N).filter fun (k : Nat) => decide (f (k : Int) ≠ [])).map fun (k : Nat) => (k : Int)
theorem keysUp_succ (f : Int → List Int) (N : Nat) : keysUp f (N + 1) = keysUp f N ++ if f (N : Int) ≠ [] then [(N : Int)] else [] := by
  unfold keysUp
  rw [List.range_succ, List.filter_append, List.map_append]
  congr 1
  by_cases h : f (N : Int) = [] <;> simp [h]
theorem keysUp_mem {f : Int → List Int} {N : Nat} {x : Int} : x ∈ keysUp f N ↔ ∃ k : Nat, k < N ∧ x = k ∧ f x ≠ [] := by
  unfold keysUp
  rw [List.mem_map]
  constructor
  · rintro ⟨k, hk, rfl⟩
    obtain ⟨h1, h2⟩ := List.mem_filter.1 hk
    exact ⟨k, List.mem_range.1 h1, rfl, by simpa using h2⟩
  · rintro ⟨k, h1, rfl, h2⟩
    exact ⟨k, List.mem_filter.2 ⟨List.mem_range.2 h1, by simpa using h2⟩, rfl⟩
theorem keysUp_pair (f : Int → List Int) (N : Nat) : (keysUp f N).Pairwise (· < ·) := by
  unfold keysUp
  rw [List.pairwise_map]
  exact (List.Pairwise.filter _ List.pairwise_lt_range).imp fun {a b} h => by omega
theorem Grp.map {w : World} {mb n : Nat} {D : DataW Unit} (h : grpAt w mb n D) : w.ownsMap Try.prog 3 (rowElem w (mb + 1) 3 .i64) mb n D := by
  obtain ⟨es, clock, h1, h2, h3, h4, _⟩ := h
  exact ⟨es, clock, h1, h2, h3, h4⟩
theorem SelMap.keys {w : World} {mb n : Nat} {D : DataW Unit} {f : Int → List Int} (hD : SelMap D f) (h : grpAt w mb n D) {N : Nat} (hN : ∀ t, f t ≠ [] → 0 ≤ t ∧ t < (N : Int)) {ss : List Int} (hP : ss.Perm (intKeys D)) : ss.mergeSort leI = keysUp f N := by
  have hc : CollectedI D (fun _ => false) (keysUp f N) := by
    refine ⟨(keysUp_pair f N).imp fun {a b} h => by omega, fun x => ?_⟩
    rw [hD.has, keysUp_mem]
    constructor
    · rintro ⟨k, _, _, h2⟩; exact ⟨by simpa using h2, rfl⟩
    · rintro ⟨h1, _⟩
      have h2 : f x ≠ [] := by simpa using h1
      obtain ⟨q1, q2⟩ := hN x h2
      exact ⟨x.toNat, by omega, by omega, h2⟩
  have hp2 := hc.perm (Grp.map h) intLaw Try.underlying3 (fun _ => rfl)
  rw [mergeSort_of_perm_i hP, ← mergeSort_of_perm_i hp2]
  exact List.mergeSort_of_pairwise ((keysUp_pair f N).imp fun {a b} h => by simp; omega)
/-- The look-up alone. -/
theorem SelMap.look {w : World} {mb n : Nat} {D : DataW Unit} {G : Nat → Prop} {f : Int → List Int} (hD : SelMap D f) (h : Grp w mb n D G) (hn : n < maxLen) {t : Int} (ht : fits64 t) :
    ∃ A c, (Instr.lookup 51 (.map (some mb)) (.int .i64 t) false).run Try.prog w = .ok (.slice A (f t).length c) w ∧ IntsIn w A (f t).length (f t) ∧ (∀ ad, A = some ad → G ad.block) := by
  obtain ⟨v, zs, hrun, hat, hoi, hzl, hvG, _⟩ := h.step hn ht
  rw [hD.at_] at hat
  have := rowD_inv hoi hat
  subst this
  obtain ⟨A, c, rfl⟩ := own_slice hoi.1
  refine ⟨A, c, hrun, IntsIn.own hoi.1 (by omega) (fun x hx => ?_), fun ad e => hvG _ (by rw [e]; rfl)⟩
  have := hoi.2 x hx
  simp [Lit.wf, IntKind.min, IntKind.max, IntKind.signed, IntKind.bits] at this
  omega
/-- A row below a world, seen in another world above it. -/
theorem IntsIn.across {w0 w w' : World} {A : Option Addr} {n : Nat} {l : List Int} (h : IntsIn w A n l) (hA : ∀ ad, A = some ad → ad.block < w0.heap.size) (hb : Below w0.heap.size w0 w) (hb' : Below w0.heap.size w0 w') : IntsIn w' A n l :=
  ⟨h.1, h.2.1.keep fun ad e _ => (hb'.block _ (hA ad e)).trans (hb.block _ (hA ad e)).symm, h.2.2.1, fun ad e _ => Nat.lt_of_lt_of_le (hA ad e) hb'.size⟩
end Go.Proofs.Ytjnbilcanfhkjaa
