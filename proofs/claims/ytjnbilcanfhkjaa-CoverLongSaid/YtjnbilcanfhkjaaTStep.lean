/- What one step leaves of the tries: an index more, a map made, a child more. -/
import Derived.Test.YtjnbilcanfhkjaaTMem
namespace Go.Proofs.Ytjnbilcanfhkjaa
open Go.RowKit Go.Maps Go.WideMaps

def upd (X : Key → List Int) (k : Key) (l : List Int) (k' : Key) : List Int := if k' = k then l else X k'
theorem upd_same (X : Key → List Int) (k : Key) (l : List Int) : upd X k l k = l := if_pos rfl
theorem upd_other (X : Key → List Int) {k k' : Key} (l : List Int) (h : k' ≠ k) : upd X k l k' = X k' := if_neg h
/-- An index behind the others, if it is greater than the last. -/
def addI (i : Int) (l : List Int) : List Int := match l.getLast? with
  | none => [i]
  | some x => if x < i then l ++ [i] else l
theorem upd_none (X : Key → List Int) (k : Key) : upd X k (X k) = X := by
  funext k'
  unfold upd
  split
  · rename_i h; rw [h]
  · rfl

theorem cell_far (w : World) (g : Nat) {i o : Nat} (v : Value) (h : i ≠ o) : (w.setCell ⟨g, o, none⟩ v).cell? ⟨g, i, none⟩ = w.cell? ⟨g, i, none⟩ :=
  World.cell?_setCell_other w _ _ v (by intro e; injection e with _ e; exact h e.symm)
theorem cell_here {w : World} {a : Addr} {u : Value} (v : Value) (h : w.cell? a = some u) : (w.setCell a v).cell? a = some v := World.cell?_setCell_same w a v h

section
variable {w w3 : World} {b g o M : Nat} {T : Lay} {X : Key → List Int} {k : Key} {v mv : Value} {tmp : Obj}
theorem Forest.added (h : Forest w b T X M) (hk : T.ad k = some (g, o)) (hn : NodeAt w T k g o (X k) M v mv) (hg : (w.alloc tmp).grownBy w3 v.ownBlock)
    {v3 : Value} {l : List Int} (hlen : l.length ≤ M + 1) (ho : w3.ownsRow 0 3 1 v3 l.length (l.map i64V)) (hloc : v3.ownBlock = v.ownBlock ∨ v3.ownBlock = some (w.alloc tmp).heap.size) :
    ∃ T', Forest (w3.setCell ⟨g, o, none⟩ v3) b T' (upd X k l) (M + 1) ∧ Ext w T T' ∧ Kept T.foot w (w3.setCell ⟨g, o, none⟩ v3) ∧ T'.ad = T.ad := by
  have hgl := h.lt g _ hn.home
  have hrg : v.ownBlock ≠ some g := fun e => by have := hn.row g e; rw [hn.home] at this; injection this with this; exact homeOf_ne.1 this
  have hg3 : v3.ownBlock ≠ some g := by
    rcases hloc with e | e
    · rw [e]; exact hrg
    · rw [e]; intro e; injection e with e; simp at e; omega
  have hblk : ∀ j, j < w.heap.size → v.ownBlock ≠ some j → w3.heap[j]? = w.heap[j]? := fun j hj hne => (hg.block j (by simp; omega) (fun e => hne e.symm)).trans (Below.heap_alloc w tmp j hj)
  have hsz : w.heap.size < w3.heap.size := by have := hg.size; simp at this; omega
  have hsc : (w3.setCell ⟨g, o, none⟩ v3).heap.size = w3.heap.size := size_setCell' _ _ _
  have hl : ∀ j r, T.lab j = some r → (if v3.ownBlock = some j then some (Role.row k) else T.lab j) = some r := by
    intro j r e
    split
    · rename_i e2
      rcases hloc with e3 | e3
      · rw [e3] at e2
        rw [← e, hn.row j e2]
      · rw [e3] at e2
        injection e2 with e2
        have := h.lt j r e
        simp at e2
        omega
    · exact e
  have h3g : ∀ i, w3.cell? ⟨g, i, none⟩ = w.cell? ⟨g, i, none⟩ := fun i => World.cell?_of_block (hblk g hgl hrg)
  have h3f : ∀ i, w3.frozen? ⟨g, i, none⟩ = w.frozen? ⟨g, i, none⟩ := fun i => World.frozen?_of_block (hblk g hgl hrg)
  have hfar : ∀ j, j ≠ g → (w3.setCell ⟨g, o, none⟩ v3).heap[j]? = w3.heap[j]? := fun j e => heap_setCell_other w3 ⟨g, o, none⟩ v3 e
  refine ⟨⟨fun j => if v3.ownBlock = some j then some (.row k) else T.lab j, T.ad⟩, h.turn hk (by omega) ?_ ?_ ?_ ?_ hl (fun _ _ => rfl) (fun _ _ e => e) (fun k' e => upd_other X l e) ⟨v3, mv, ?_⟩ (fun c a e e2 => by rw [e2] at e; cases e), ⟨hl, ?_, fun _ _ e => e⟩, ?_, rfl⟩
  · intro j hj h1 h2 h3
    rw [hfar j h3]
    exact hblk j hj fun e => h1 (hn.row j e)
  · intro i h1 h2
    rw [cell_far _ _ _ (by omega)]
    exact h3g i
  · intro i
    rw [World.frozen?_setCell]
    exact h3f i
  · intro j r e
    rw [hsc]
    simp only at e
    split at e
    · rename_i e2
      exact (ho.lt j e2).2
    · have := h.lt j r e
      omega
  · rw [upd_same]
    refine ⟨hl _ _ hn.home, cell_here _ ((h3g o).trans hn.c0), ?_, ?_, ?_, ?_, fun r e => by simp only; rw [if_pos e], hlen, ?_⟩
    · rw [cell_far _ _ _ (by omega)]
      exact (h3g _).trans hn.c1
    · rw [World.frozen?_setCell]; exact (h3f _).trans hn.f0
    · rw [World.frozen?_setCell]; exact (h3f _).trans hn.f1
    · exact ownsRow_block ho fun r e => hfar r fun e2 => hg3 (by rw [← e2]; exact e)
    · rcases hn.kids with ⟨e1, e2⟩ | ⟨m, n, D, e1, e2, e3, e4, e5⟩
      · exact .inl ⟨e1, e2⟩
      · refine .inr ⟨m, n, D, e1, hl _ _ e2, by omega, ownsMap_block e4 ?_, e5⟩
        have hmg : m ≠ g := fun e => by rw [e, hn.home] at e2; injection e2 with e2; exact homeOf_ne.2 e2
        rw [hfar m hmg]
        exact hblk m (h.lt m _ e2) fun e => by have := hn.row m e; rw [e2] at this; injection this with this; cases this
  · intro j r e
    simp only at e
    split at e
    · rename_i e2
      rcases hloc with e3 | e3
      · rw [e3] at e2
        injection e with e
        rw [← e]
        exact .inl (hn.row j e2)
      · rw [e3] at e2
        injection e2 with e2
        simp at e2
        exact .inr (by omega)
    · exact .inl e
  · have k1 : Kept T.foot w w3 := ((Kept.refl T.foot w).alloc tmp).grown hg fun j e => .inl ⟨_, hn.row j e⟩
    exact k1.setCell (.inl ⟨_, hn.home⟩) v3

/-- The map of a node that had none. -/
theorem Forest.made (h : Forest w b T X M) (hk : T.ad k = some (g, o)) (hn : NodeAt w T k g o (X k) M v (.map none)) :
    ∃ T', Forest ((w.alloc (.map #[] 0)).setCell ⟨g, o + 1, none⟩ (.map (some w.heap.size))) b T' X M ∧ Ext w T T' ∧ Kept T.foot w ((w.alloc (.map #[] 0)).setCell ⟨g, o + 1, none⟩ (.map (some w.heap.size))) ∧ T'.ad = T.ad ∧
      NodeAt ((w.alloc (.map #[] 0)).setCell ⟨g, o + 1, none⟩ (.map (some w.heap.size))) T' k g o (X k) M v (.map (some w.heap.size)) ∧
      (∀ c, T.ad (k.kid c) = none) := by
  have hgl := h.lt g _ hn.home
  have hno : ∀ c, T.ad (k.kid c) = none := by
    rcases hn.kids with ⟨_, e2⟩ | ⟨m, n, D, e1, _⟩
    · exact e2
    · injection e1 with e1; cases e1
  obtain ⟨w3, hw3⟩ : ∃ w3, w3 = w.alloc (.map #[] 0) := ⟨_, rfl⟩
  rw [← hw3]
  have hblk : ∀ j, j < w.heap.size → w3.heap[j]? = w.heap[j]? := fun j hj => by rw [hw3]; exact Below.heap_alloc w _ j hj
  have hsz : w3.heap.size = w.heap.size + 1 := by rw [hw3]; simp
  obtain ⟨v3, hv3⟩ : ∃ v3, v3 = Value.map (some w.heap.size) := ⟨_, rfl⟩
  rw [← hv3]
  have hl : ∀ j r, T.lab j = some r → (if j = w.heap.size then some (Role.map k) else T.lab j) = some r := by
    intro j r e
    rw [if_neg (by have := h.lt j r e; omega)]
    exact e
  have h3g : ∀ i, w3.cell? ⟨g, i, none⟩ = w.cell? ⟨g, i, none⟩ := fun i => World.cell?_of_block (hblk g hgl)
  have h3f : ∀ i, w3.frozen? ⟨g, i, none⟩ = w.frozen? ⟨g, i, none⟩ := fun i => World.frozen?_of_block (hblk g hgl)
  have hfar : ∀ j, j ≠ g → (w3.setCell ⟨g, o + 1, none⟩ v3).heap[j]? = w3.heap[j]? := fun j e => heap_setCell_other w3 ⟨g, o + 1, none⟩ v3 e
  have hrg : v.ownBlock ≠ some g := fun e => by have := hn.row g e; rw [hn.home] at this; injection this with this; exact homeOf_ne.1 this
  have hN : NodeAt (w3.setCell ⟨g, o + 1, none⟩ v3) ⟨fun j => if j = w.heap.size then some (.map k) else T.lab j, T.ad⟩ k g o (X k) M v v3 := by
    refine ⟨hl _ _ hn.home, ?_, cell_here _ ((h3g _).trans hn.c1), ?_, ?_, ?_, fun r e => hl _ _ (hn.row r e), hn.few, .inr ⟨w.heap.size, 0, .map [], hv3, if_pos rfl, Nat.zero_le _, ?_, ?_⟩⟩
    · rw [cell_far _ _ _ (by omega)]
      exact (h3g _).trans hn.c0
    · rw [World.frozen?_setCell]; exact (h3f _).trans hn.f0
    · rw [World.frozen?_setCell]; exact (h3f _).trans hn.f1
    · exact ownsRow_block hn.own fun r e => by
        rw [hfar r (fun e2 => hrg (by rw [← e2]; exact e))]
        exact hblk r (hn.own.lt r e).2
    · have := World.ownsMap_made w Try.prog 5 ptrElem
      rw [← hw3] at this
      exact ownsMap_block this (hfar _ (by omega))
    · simp only [hno]
      exact KidMap.nil
  refine ⟨⟨fun j => if j = w.heap.size then some (.map k) else T.lab j, T.ad⟩, h.turn hk (Nat.le_refl _) ?_ ?_ ?_ ?_ hl (fun _ _ => rfl) (fun _ _ e => e) (fun k' e => rfl) ⟨v, v3, hN⟩ (fun c a e e2 => by rw [e2] at e; cases e), ⟨hl, ?_, fun _ _ e => e⟩, ?_, rfl, hN, hno⟩
  · intro j hj h1 h2 h3
    rw [hfar j h3]
    exact hblk j hj
  · intro i h1 h2
    rw [cell_far _ _ _ (by omega)]
    exact h3g i
  · intro i
    rw [World.frozen?_setCell]
    exact h3f i
  · intro j r e
    rw [size_setCell', hsz]
    simp only at e
    split at e
    · omega
    · have := h.lt j r e
      omega
  · intro j r e
    simp only at e
    split at e
    · exact .inr (by omega)
    · exact .inl e
  · have k1 : Kept T.foot w w3 := by rw [hw3]; exact (Kept.refl T.foot w).alloc _
    exact k1.setCell (.inl ⟨_, hn.home⟩) v3

/-- A child of a node that has a map. -/
theorem Forest.kidded (h : Forest w b T X M) (hk : T.ad k = some (g, o)) {m n : Nat} {D : DataW Unit} {c : UInt8} (hn : NodeAt w T k g o (X k) M v (.map (some m))) (hm : T.lab m = some (.map k)) (hnM : n ≤ M) (hD : KidMap D fun c => (T.ad (k.kid c)).map Prod.fst)
    (hno : T.ad (k.kid c) = none) (ho : kidsAt w3 m (n + 1) (D.put (.int .u8 c.toNat) (.lit (.int .i64 w.heap.size))))
    (hg : (w.alloc (.cells #[.slice none 0 0, .map none] 66)).grownBy w3 (some m)) :
    ∃ T', Forest w3 b T' X (M + 1) ∧ Ext w T T' ∧ Kept T.foot w w3 ∧ T'.ad (k.kid c) = some (w.heap.size, 0) := by
  have hgl := h.lt g _ hn.home
  have hml := h.lt m _ hm
  have hmg : m ≠ g := fun e => by rw [e, hn.home] at hm; injection hm with hm; exact homeOf_ne.2 hm
  have hsz : w.heap.size < w3.heap.size := by have := hg.size; simp at this; omega
  have hblk : ∀ j, j < w.heap.size → j ≠ m → w3.heap[j]? = w.heap[j]? := fun j hj hne => (hg.block j (by simp; omega) (fun e => hne (by injection e))).trans (Below.heap_alloc w _ j hj)
  have hnew : w3.heap[w.heap.size]? = some (.cells #[.slice none 0 0, .map none] 66 (0, 0)) := (hg.block w.heap.size (by simp) (fun e => by injection e with e; omega)).trans (Blk.new w _ _)
  have hB : Blk w3 w.heap.size 66 #[.slice none 0 0, .map none] := hnew
  have hl : ∀ j r, T.lab j = some r → (if j = w.heap.size then some (Role.node (k.kid c)) else T.lab j) = some r := by
    intro j r e
    rw [if_neg (by have := h.lt j r e; omega)]
    exact e
  have h3g : ∀ i, w3.cell? ⟨g, i, none⟩ = w.cell? ⟨g, i, none⟩ := fun i => World.cell?_of_block (hblk g hgl fun e => hmg e.symm)
  have h3f : ∀ i, w3.frozen? ⟨g, i, none⟩ = w.frozen? ⟨g, i, none⟩ := fun i => World.frozen?_of_block (hblk g hgl fun e => hmg e.symm)
  have had : ∀ k' a, T.ad k' = some a → (if k' = k.kid c then some (w.heap.size, 0) else T.ad k') = some a := by
    intro k' a e
    rw [if_neg (fun e2 => by rw [e2, hno] at e; cases e)]
    exact e
  refine ⟨⟨fun j => if j = w.heap.size then some (.node (k.kid c)) else T.lab j, fun k' => if k' = k.kid c then some (w.heap.size, 0) else T.ad k'⟩,
    h.turn hk (by omega) ?_ (fun i _ _ => h3g i) h3f ?_ hl ?_ had (fun k' e => rfl) ⟨v, .map (some m), ?_⟩ ?_, ⟨hl, ?_, had⟩, ?_, if_pos rfl⟩
  · intro j hj h1 h2 h3
    exact hblk j hj fun e => h2 (by rw [e]; exact hm)
  · intro j r e
    simp only at e
    split at e
    · omega
    · have := h.lt j r e
      omega
  · intro k' e
    simp only
    rw [if_neg (e c)]
  · refine ⟨hl _ _ hn.home, (h3g _).trans hn.c0, (h3g _).trans hn.c1, (h3f _).trans hn.f0, (h3f _).trans hn.f1, ?_, fun r e => hl _ _ (hn.row r e), Nat.le_succ_of_le hn.few, .inr ⟨m, n + 1, _, rfl, hl _ _ hm, by omega, ho, ?_⟩⟩
    · exact ownsRow_block hn.own fun r e => hblk r (hn.own.lt r e).2 fun e2 => by have := hn.row r e; rw [e2, hm] at this; injection this with this; cases this
    · have := hD.put c w.heap.size
      refine ⟨this.isMap, fun d => ?_, fun d => ?_⟩
      · rw [this.has]
        by_cases e : d = c
        · subst e; simp
        · have e2 : k.kid d ≠ k.kid c := fun e3 => e (Key.kid_inj e3).2
          simp [e, e2]
      · rw [this.at_]
        by_cases e : d = c
        · subst e; simp
        · have e2 : k.kid d ≠ k.kid c := fun e3 => e (Key.kid_inj e3).2
          simp [e, e2]
  · intro d a e e2
    simp only at e
    split at e
    · rename_i e3
      obtain ⟨_, rfl⟩ := Key.kid_inj e3
      injection e with e
      subst e
      refine ⟨rfl, .slice none 0 0, .map none, ?_⟩
      rw [h.nix _ hno]
      refine ⟨?_, hB.cell 0, hB.cell 1, hB.frozen 0, hB.frozen 1, ⟨rfl, .inl ⟨rfl, rfl⟩⟩, fun r e => by simp [Value.ownBlock] at e, Nat.zero_le _, .inl ⟨rfl, fun d2 => ?_⟩⟩
      · simp only [if_true]
        unfold homeOf
        rw [if_neg (Key.kid_far k d)]
      · simp only
        rw [if_neg (Key.kid_ne _ d2)]
        cases e5 : T.ad ((k.kid d).kid d2) with
        | none => rfl
        | some a2 =>
          obtain ⟨a3, e6⟩ := h.up _ _ _ e5
          rw [hno] at e6
          cases e6
    · rw [e2] at e
      cases e
  · intro j r e
    simp only at e
    split at e
    · exact .inr (by omega)
    · exact .inl e
  · exact ((Kept.refl T.foot w).alloc _).grown hg fun j e => .inl (by injection e with e; subst e; exact ⟨_, hm⟩)
end
end Go.Proofs.Ytjnbilcanfhkjaa
