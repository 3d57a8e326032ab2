/- The landed mem's map: from tokens to rows of places, each row a row of one's own; one place more; a look-up; its keys in order. -/
import Derived.Test.YtmnofmcfkchebaaMpMath
import Derived.Test.YtmnofmcfkchebaaKPostsG
import Derived.Test.YtmnofmcfkchebaaKTwos
import Derived.Maps.OwnRows
import Derived.Maps.GroupsBeside
import Derived.Lib.SlKeysI
namespace Go.Proofs.Ytmnofmcfkchebaa
open Go.RowKit Go.Maps Go.WideMaps

def plCells (p : Pl) : List Value := [.int .i64 p.1, .int .i64 p.2.1, .int .i64 p.2.2]
theorem pl_len (l : List Pl) : (l.flatMap plCells).length = l.length * 3 := by
  induction l with
  | nil => rfl
  | cons a r ih => rw [List.flatMap_cons, List.length_append, ih, List.length_cons]; simp [plCells]; omega
theorem pl_at : ∀ (l : List Pl) (i j : Nat) (p : Pl) (u : Value), l[i]? = some p → (plCells p)[j]? = some u → (l.flatMap plCells)[i * 3 + j]? = some u
  | [], i, j, p, u, h, _ => by simp at h
  | a :: r, 0, j, p, u, h, h2 => by
    simp at h
    subst h
    rw [List.flatMap_cons, List.getElem?_append_left (by have := (List.getElem?_eq_some_iff.1 h2).1; omega)]
    simpa using h2
  | a :: r, i + 1, j, p, u, h, h2 => by
    have hl : (plCells a).length = 3 := rfl
    rw [List.flatMap_cons, List.getElem?_append_right (by omega), hl, show (i + 1) * 3 + j - 3 = i * 3 + j by omega]
    exact pl_at r i j p u (by simpa using h) h2
theorem pl_one (p : Pl) : ∀ u ∈ plCells p, u.oneCell' = true := fun u hu => by
  simp [plCells] at hu
  rcases hu with rfl | rfl | rfl <;> rfl
/-- A place in a new block, as a source. -/
theorem pl_new {w : World} {g : Nat} {e : TypeId} {p : Pl} (h : Blk w g e #[.int .i64 p.1, .int .i64 p.2.1, .int .i64 p.2.2]) : ∀ (j : Nat) (u : Value), (plCells p)[j]? = some u → w.cell? ((⟨g, 0, none⟩ : Addr).add j) = some u := by
  intro j u hu
  match j with
  | 0 => simp [plCells] at hu; subst hu; exact h.cell 0
  | 1 => simp [plCells] at hu; subst hu; exact h.cell 1
  | 2 => simp [plCells] at hu; subst hu; exact h.cell 2
  | j + 3 => simp [plCells] at hu
/-- Places of one's own. -/
def OwnPl (w : World) (base : Nat) (v : Value) (ps : List Pl) : Prop := w.ownsRow base 55 3 v ps.length (ps.flatMap plCells)
/-- A place of such a row, to read. -/
theorem OwnPl.at {w : World} {base : Nat} {A : Option Addr} {n c : Nat} {ps : List Pl} (h : OwnPl w base (.slice A n c) ps) (k : Nat) (hk : k < ps.length) :
    ∃ ad p, A = some ad ∧ ps[k]? = some p ∧ w.cell? (ad.add (k * 3)) = some (.int .i64 p.1) ∧ w.cell? ⟨(ad.add (k * 3)).block, (ad.add (k * 3)).off + 1, none⟩ = some (.int .i64 p.2.1) ∧ w.cell? ⟨(ad.add (k * 3)).block, (ad.add (k * 3)).off + 2, none⟩ = some (.int .i64 p.2.2) := by
  unfold OwnPl at h
  have hx : ps[k]? = some (ps[k]'(by omega)) := List.getElem?_eq_getElem _
  rcases h.2 with ⟨_, h0⟩ | ⟨g, cap, cur, h1, _⟩
  · omega
  · simp only [Value.slice.injEq] at h1
    obtain ⟨rfl, rfl, rfl⟩ := h1
    have hc := fun j u (hj : (plCells ps[k])[j]? = some u) => h.cells (g := g) rfl (k * 3 + j) u (pl_at ps k j _ u hx hj)
    have c0 := hc 0 _ rfl
    have c1 := hc 1 _ rfl
    have c2 := hc 2 _ rfl
    rw [add_pos' _ _ _ (by omega)] at c1 c2
    exact ⟨_, _, rfl, hx, c0, c1, c2⟩
/-- Every entry reads as the same. -/
def anyElem : Value → Option (DataW Unit × List MemPlace) := fun _ => some (.lit (.bool true), [])
theorem pIntLaw : Keyed Try.prog 3 := int_keyed Try.underlying3
theorem p64 {x : Int} (h : fits64 x) : (Lit.int .i64 x).wf = true := by
  obtain ⟨h1, h2⟩ := h
  simp [Lit.wf, IntKind.min, IntKind.max, IntKind.signed, IntKind.bits]
  omega
theorem p64key {x : Int} (h : fits64 x) : keyOf Try.prog 3 (.int .i64 x) = some (.int .i64 x) := Maps.keyOf_int_mk Try.underlying3 (p64 h)
theorem zeroPls (w : World) : (zeroValue 53).run Try.prog w = .ok (.slice none 0 0) w := by kernel_rfl
theorem p64_inj {c d : Int} (h : Lit.int .i64 c = .int .i64 d) : c = d := by injection h
def markD (b : Bool) : DataW Unit := if b then .lit (.bool true) else .nil
/-- The keys are the numbers at which there is anything. -/
structure KeysD (D : DataW Unit) (f : Int → List Pl) : Prop where
  isMap : IsMap D
  at_ : ∀ t : Int, D.atKey (.int .i64 t) .nil = markD (decide (f t ≠ []))
  has : ∀ t : Int, Maps.has D (.int .i64 t) = decide (f t ≠ [])
theorem KeysD.nil : KeysD (.map []) fun _ => [] := ⟨isMap_empty, fun _ => rfl, fun _ => rfl⟩
/-- With one place more at a token. -/
def plPut (f : Int → List Pl) (t : Int) (p : Pl) : Int → List Pl := fun u => if u = t then f u ++ [p] else f u
theorem KeysD.put {D : DataW Unit} {f : Int → List Pl} (h : KeysD D f) (t : Int) (p : Pl) : KeysD (D.put (.int .i64 t) (.lit (.bool true))) (plPut f t p) := by
  refine ⟨h.isMap.put _ _, fun u => ?_, fun u => ?_⟩
  · by_cases e : u = t
    · subst e
      rw [atKey_put_same h.isMap (show WideAt.IsKeyLit (.int .i64 u) from trivial)]
      simp [plPut, markD]
    · rw [atKey_put_other (fun e2 => e (p64_inj e2)), h.at_]
      simp only [plPut, if_neg e]
  · by_cases e : u = t
    · subst e
      rw [has_put_same h.isMap (show WideAt.IsKeyLit (.int .i64 u) from trivial)]
      simp [plPut]
    · rw [has_put_other (fun e2 => e (p64_inj e2)), h.has]
      simp only [plPut, if_neg e]
/-- What an entry holds. -/
structure EntOk (w : World) (mb : Nat) (f : Int → List Pl) (G : Nat → Prop) (x : MapEntry) : Prop where
  own : ∃ t : Int, x.key = .int .i64 t ∧ OwnPl w (mb + 1) x.val (f t)
  inG : ∀ g, x.val.ownBlock = some g → G g
/-- Two values lie apart. -/
def Apart (u v : Value) : Prop := u.ownBlock = none ∨ u.ownBlock ≠ v.ownBlock
/-- Such a map; its block and its rows' are among G. -/
structure PMap (w : World) (mb n : Nat) (f : Int → List Pl) (G : Nat → Prop) : Prop where
  own : ∃ D, w.ownsMap Try.prog 3 anyElem mb n D ∧ KeysD D f
  ent : ∀ es clock, w.heap[mb]? = some (.map es clock) → (∀ x ∈ es.toList, EntOk w mb f G x) ∧ ∀ x ∈ es.toList, ∀ y ∈ es.toList, x.key ≠ y.key → Apart x.val y.val
  inG : G mb
theorem PMap.lt {w : World} {mb n : Nat} {f : Int → List Pl} {G : Nat → Prop} (h : PMap w mb n f G) : mb < w.heap.size := by
  obtain ⟨D, h1, _⟩ := h.own
  exact h1.lt
theorem PMap.made (w : World) : PMap (w.alloc (.map #[] 0)) w.heap.size 0 (fun _ => []) fun i => i = w.heap.size where
  own := ⟨_, World.ownsMap_made w _ _ _, KeysD.nil⟩
  ent := fun es clock h => by
    have h1 : (w.alloc (.map #[] 0)).heap[w.heap.size]? = some (.map #[] 0) := heap_alloc_new w _
    rw [h1] at h
    obtain ⟨rfl, -⟩ : #[] = es ∧ 0 = clock := by simpa using h
    simp
  inG := rfl
theorem PMap.keep {w w' : World} {mb n : Nat} {f : Int → List Pl} {G : Nat → Prop} (h : PMap w mb n f G) (hk : ∀ i, G i → w'.heap[i]? = w.heap[i]?) : PMap w' mb n f G where
  own := by
    obtain ⟨D, h1, h2⟩ := h.own
    exact ⟨D, ownsMap_block h1 (hk mb h.inG), h2⟩
  ent := fun es clock e => by
    obtain ⟨h1, h2⟩ := h.ent es clock (by rw [← hk mb h.inG]; exact e)
    refine ⟨fun x hx => ?_, h2⟩
    obtain ⟨⟨t, q1, q2⟩, q3⟩ := h1 x hx
    exact ⟨⟨t, q1, ownsRow_block q2 fun g hg => hk g (q3 g hg)⟩, q3⟩
  inG := h.inG
theorem PMap.lets {w : World} {mb n : Nat} {f g : Int → List Pl} {G G' : Nat → Prop} (h : PMap w mb n f G) (e : ∀ t, g t = f t) (hG : ∀ i, G i → G' i) : PMap w mb n g G' := by
  have : g = f := funext e
  subst this
  exact ⟨h.own, fun es clock hb => by
    obtain ⟨h1, h2⟩ := h.ent es clock hb
    exact ⟨fun x hx => ⟨(h1 x hx).own, fun j hj => hG j ((h1 x hx).inG j hj)⟩, h2⟩, hG _ h.inG⟩
theorem PMap.more {w : World} {mb n n' : Nat} {f : Int → List Pl} {G : Nat → Prop} (h : PMap w mb n f G) (hn : n ≤ n') : PMap w mb n' f G :=
  ⟨by obtain ⟨D, h1, h2⟩ := h.own; exact ⟨D, h1.mono hn, h2⟩, h.ent, h.inG⟩
/-- The look-up at a number: the row there; and a store of that row with one place more. -/
theorem PMap.step {w : World} {mb n : Nat} {f : Int → List Pl} {G : Nat → Prop} (h : PMap w mb n f G) (hn : n < maxLen) {t : Int} (ht : fits64 t) :
    ∃ v, (Instr.lookup 50 (.map (some mb)) (.int .i64 t) false).run Try.prog w = .ok v w ∧ OwnPl w (mb + 1) v (f t) ∧ (∀ g, v.ownBlock = some g → G g ∧ g ≠ mb) ∧
      ∀ (w1 : World) (v' : Value) (p : Pl), w.grownBy w1 v.ownBlock → w1.ownsRow (mb + 1) 55 3 v' ((f t).length + 1) ((f t).flatMap plCells ++ plCells p) → (v'.ownBlock = v.ownBlock ∨ ∃ g, v'.ownBlock = some g ∧ w.heap.size ≤ g) →
        ∃ w2, (Instr.mapUpdate 50 (.map (some mb)) (.int .i64 t) v').run Try.prog w1 = .ok () w2 ∧ PMap w2 mb (n + 1) (plPut f t p) (fun i => G i ∨ (w.heap.size ≤ i ∧ i < w2.heap.size)) ∧ w1.grownBy w2 (some mb) := by
  obtain ⟨D, hM, hD⟩ := h.own
  have hM' := hM
  obtain ⟨es, clock, hb, F, hs, rfl⟩ := hM
  obtain ⟨hent, hap⟩ := h.ent es clock hb
  have hlk : ∃ v, (Instr.lookup 50 (.map (some mb)) (.int .i64 t) false).run Try.prog w = .ok v w ∧ OwnPl w (mb + 1) v (f t) ∧ (∀ g, v.ownBlock = some g → G g ∧ g ≠ mb) ∧ ∀ x ∈ es.toList, x.key ≠ .int .i64 t → Apart x.val v := by
    rcases Maps.fit_look false pIntLaw Try.underlying50 (zeroPls _) hb F (p64key ht) with ⟨hrun, _, hat⟩ | ⟨e0, y, hm0, hk0, hrun, hR, hat, _⟩
    · have hf : f t = [] := by
        have h1 := hD.at_ t
        rw [hat] at h1
        unfold markD at h1
        split at h1
        · cases h1
        · rename_i h2
          simpa using h2
      refine ⟨.slice none 0 0, hrun, by rw [hf]; exact ⟨rfl, .inl ⟨rfl, rfl⟩⟩, fun g hg => (by cases hg), fun x hx _ => ?_⟩
      unfold Apart
      cases x.val.ownBlock with
      | none => exact .inl rfl
      | some g => exact .inr (by simp [Value.ownBlock])
    · obtain ⟨⟨u, q1, q2⟩, q3⟩ := hent e0 hm0
      have hu : u = t := by rw [hk0] at q1; exact (by injection q1 with _ q1; exact q1.symm)
      subst hu
      exact ⟨e0.val, hrun, q2, fun g hg => ⟨q3 g hg, by have := (World.ownsRow.lt q2 g hg).1; omega⟩, fun x hx hne => hap x hx e0 hm0 (by rw [hk0]; exact hne)⟩
  obtain ⟨v, hrun, hov, hvG, hvA⟩ := hlk
  refine ⟨v, hrun, hov, hvG, fun w1 v' p hgr hown hloc => ?_⟩
  have hmb : mb < w.heap.size := h.lt
  have hM1 : w1.ownsMap Try.prog 3 anyElem mb n _ := hM'.kept hgr (fun e => (hvG mb e.symm).2 rfl)
  obtain ⟨w2, hrun2, r1, r2⟩ := hM1.update pIntLaw Try.underlying50 hn (val := v') (p64key ht) (show anyElem v' = some (.lit (.bool true), []) from rfl)
  have hb1 : w1.heap[mb]? = some (.map es clock) := (hgr.block mb hmb (fun e => (hvG mb e.symm).2 rfl)).trans hb
  obtain ⟨es', clock', hb2, hwho⟩ := stored_who pIntLaw Try.underlying50 hb1 F (Nat.lt_of_le_of_lt hs hn) (p64key ht) hrun2
  have hsz1 := hgr.size
  have hsz2 := r2.size
  have hv'2 : w2.ownsRow (mb + 1) 55 3 v' ((f t).length + 1) ((f t).flatMap plCells ++ plCells p) := hown.kept r2 (by
    cases e : v'.ownBlock with
    | none => exact .inl rfl
    | some g => exact .inr (fun e2 => by have := (hown.lt g e).1; cases e2; omega))
  have hold : ∀ x ∈ es.toList, x.key ≠ .int .i64 t → EntOk w2 mb (plPut f t p) (fun i => G i ∨ (w.heap.size ≤ i ∧ i < w2.heap.size)) x ∧ Apart x.val v' ∧ Apart v' x.val := by
    intro x hx hne
    obtain ⟨⟨u, q1, q2⟩, q3⟩ := hent x hx
    have hu : u ≠ t := fun e => hne (by rw [q1, e])
    have hA := hvA x hx hne
    refine ⟨⟨⟨u, q1, ?_⟩, fun g hg => .inl (q3 g hg)⟩, ?_, ?_⟩
    · unfold plPut
      rw [if_neg hu]
      refine ownsRow_block q2 fun g hg => ?_
      have h1 := World.ownsRow.lt q2 g hg
      have h2 : some g ≠ v.ownBlock := by
        rcases hA with h3 | h3
        · rw [h3] at hg; cases hg
        · rw [hg] at h3; exact h3
      exact (r2.block g (by omega) (fun e => by cases e; omega)).trans (hgr.block g h1.2 h2)
    · rcases hloc with e | ⟨j, e, hj⟩
      · unfold Apart; rw [e]; exact hA
      · cases e2 : x.val.ownBlock with
        | none => exact .inl e2
        | some g =>
          refine .inr (fun e3 => ?_)
          have h1 := World.ownsRow.lt q2 g e2
          rw [e, e2] at e3
          cases e3
          omega
    · rcases hloc with e | ⟨j, e, hj⟩
      · rcases hA with h3 | h3
        · cases e4 : v'.ownBlock with
          | none => exact .inl e4
          | some g => exact .inr (by rw [h3, e4]; simp)
        · exact .inr (by rw [e]; exact fun e4 => h3 e4.symm)
      · refine .inr (fun e3 => ?_)
        rw [e] at e3
        have h1 := World.ownsRow.lt q2 _ e3.symm
        omega
  refine ⟨w2, hrun2, ⟨⟨_, r1, hD.put t p⟩, fun es2 clock2 hb3 => ?_, .inl h.inG⟩, r2⟩
  obtain ⟨rfl, rfl⟩ : es' = es2 ∧ clock' = clock2 := by rw [hb2] at hb3; simpa using hb3
  have hnew : ∀ x ∈ es'.toList, x.key = .int .i64 t → x.val = v' → EntOk w2 mb (plPut f t p) (fun i => G i ∨ (w.heap.size ≤ i ∧ i < w2.heap.size)) x := fun x _ e1 e2 => by
    refine ⟨⟨t, e1, ?_⟩, fun g hg => ?_⟩
    · rw [e2]
      unfold plPut OwnPl
      rw [if_pos rfl, List.length_append, List.flatMap_append, List.flatMap_singleton]
      exact hv'2
    · rw [e2] at hg
      have h1 := (hv'2.lt g hg).2
      rcases hloc with e | ⟨j, e, hj⟩
      · exact .inl (hvG g (by rw [← e]; exact hg)).1
      · rw [hg] at e
        cases e
        exact .inr ⟨hj, h1⟩
  refine ⟨fun x hx => ?_, fun x hx y hy hne => ?_⟩
  · rcases hwho x hx with ⟨h1, h2⟩ | ⟨h1, h2⟩
    · exact (hold x h1 h2).1
    · exact hnew x hx h1 h2
  · rcases hwho x hx with ⟨h1, h2⟩ | ⟨h1, h2⟩ <;> rcases hwho y hy with ⟨h3, h4⟩ | ⟨h3, h4⟩
    · exact hap x h1 y h3 hne
    · rw [h4]; exact (hold x h1 h2).2.1
    · rw [h2]; exact (hold y h3 h4).2.2
    · exact absurd (h1.trans h3.symm) hne
/-- The keys, in order. -/
theorem PMap.keys {w : World} {mb n : Nat} {f : Int → List Pl} {D : DataW Unit} (hM : w.ownsMap Try.prog 3 anyElem mb n D) (hD : KeysD D f) {K : List Int} (hK : K.Pairwise (· < ·)) (hm : ∀ t, t ∈ K ↔ f t ≠ []) {ss : List Int} (hP : ss.Perm (intKeys D)) : ss.mergeSort leI = K := by
  have hc : CollectedI D (fun _ => false) K := by
    refine ⟨hK.imp fun {a b} h => by omega, fun x => ?_⟩
    rw [hD.has, hm]
    simp
  have hp2 := hc.perm hM pIntLaw Try.underlying3 (fun _ => rfl)
  rw [mergeSort_of_perm_i hP, ← mergeSort_of_perm_i hp2]
  exact List.mergeSort_of_pairwise (hK.imp fun {a b} h => by simp; omega)
end Go.Proofs.Ytmnofmcfkchebaa
