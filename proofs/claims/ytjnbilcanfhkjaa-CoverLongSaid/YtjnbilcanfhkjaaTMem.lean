/- The tries in memory: which block is what, what is said of a node, and what one step leaves. -/
import Derived.Test.YtjnbilcanfhkjaaTIter
import Derived.Test.YtjnbilcanfhkjaaKInts
import Derived.MapViews
namespace Go.Proofs.Ytjnbilcanfhkjaa
open Go.RowKit Go.Maps Go.WideMaps

/-- A node's place: which of the three trees, and the bytes on its way. -/
abbrev Key := Nat × Nm
def Key.kid (k : Key) (c : UInt8) : Key := (k.1, k.2 ++ [c])
/-- What a block is for. -/
inductive Role where
  | whole
  | node (k : Key)
  | row (k : Key)
  | map (k : Key)
def homeOf (k : Key) : Role := if k.2 = [] then .whole else .node k
/-- What each block is for, and where each node lies. -/
structure Lay where
  lab : Nat → Option Role
  ad : Key → Option (Nat × Nat)

theorem Key.kid_inj {k k' : Key} {c c' : UInt8} (h : k.kid c = k'.kid c') : k = k' ∧ c = c' := by
  unfold Key.kid at h
  injection h with h1 h2
  obtain ⟨h3, h4⟩ := List.append_inj' h2 rfl
  injection h4 with h4
  exact ⟨Prod.ext h1 h3, h4⟩
theorem Key.kid_ne (k : Key) (c : UInt8) : k.kid c ≠ k := fun h => by
  have := congrArg (fun x => x.2.length) h
  simp [Key.kid] at this
theorem Key.kid_far (k : Key) (c : UInt8) : (k.kid c).2 ≠ [] := by simp [Key.kid]

/-- The children as a map's datum. -/
structure KidMap (D : DataW Unit) (f : UInt8 → Option Nat) : Prop where
  isMap : IsMap D
  has : ∀ c : UInt8, Maps.has D (.int .u8 c.toNat) = (f c).isSome
  at_ : ∀ c : UInt8, D.atKey (.int .u8 c.toNat) (.lit (.bool false)) = match f c with | some g => .lit (.int .i64 g) | none => .lit (.bool false)
theorem KidMap.nil : KidMap (.map []) fun _ => none := ⟨isMap_empty, fun _ => rfl, fun _ => rfl⟩
theorem u8key (c : UInt8) : keyOf Try.prog 5 (.int .u8 c.toNat) = some (.int .u8 c.toNat) :=
  Maps.keyOf_int_mk Try.underlying5 (by
    have := c.toNat_lt
    simp [Lit.wf, IntKind.min, IntKind.max, IntKind.signed, IntKind.bits]
    omega)
theorem u8lit_inj {c d : UInt8} (h : Lit.int .u8 (c.toNat : Int) = .int .u8 (d.toNat : Int)) : c = d := by
  injection h with _ h
  exact UInt8.toNat_inj.1 (by omega)
theorem KidMap.put {D : DataW Unit} {f : UInt8 → Option Nat} (h : KidMap D f) (c : UInt8) (g : Nat) : KidMap (D.put (.int .u8 c.toNat) (.lit (.int .i64 g))) fun d => if d = c then some g else f d := by
  refine ⟨h.isMap.put _ _, fun d => ?_, fun d => ?_⟩
  · by_cases e : d = c
    · subst e
      rw [has_put_same h.isMap (show WideAt.IsKeyLit (.int .u8 d.toNat) from trivial), if_pos rfl]
      rfl
    · rw [has_put_other (fun e2 => e (u8lit_inj e2)), if_neg e, h.has]
  · by_cases e : d = c
    · subst e
      rw [atKey_put_same h.isMap (show WideAt.IsKeyLit (.int .u8 d.toNat) from trivial), if_pos rfl]
    · rw [atKey_put_other (fun e2 => e (u8lit_inj e2)), if_neg e, h.at_]
def ptrOf : Option Nat → Value
  | some i => at0 i
  | none => .pointer none
theorem zeroPtr (w : World) : (zeroValue 86).run Try.prog w = .ok (.pointer none) w := by kernel_rfl
theorem u8Law : Keyed Try.prog 5 := int_keyed Try.underlying5
abbrev kidsAt (w : World) (m n : Nat) (D : DataW Unit) : Prop := w.ownsMap Try.prog 5 ptrElem m n D
theorem ptr_of_at {v : Value} {ps : List MemPlace} {x : Option Nat} (hv : ptrElem v = some ((match x with | some g => DataW.lit (.int .i64 g) | none => .lit (.bool false)), ps)) : v = ptrOf x := by
  cases x with
  | none =>
    unfold ptrElem at hv
    split at hv
    · simp [DataW.lit.injEq] at hv
    · rfl
    · cases hv
  | some i => exact ptrElem_inv hv
theorem kid_look {w : World} {m n : Nat} {D : DataW Unit} {f : UInt8 → Option Nat} (h : kidsAt w m n D) (hD : KidMap D f) (c : UInt8) {x : Option Nat} (hx : f c = x) :
    (Instr.lookup 64 (.map (some m)) (.int .u8 c.toNat) false).run Try.prog w = .ok (ptrOf x) w := by
  obtain ⟨v, ps, hrun, hv⟩ := h.lookup u8Law Try.underlying64 (zeroPtr _) (zd := .lit (.bool false)) (zp := []) rfl (u8key c)
  rw [hD.at_, hx] at hv
  rw [hrun, ptr_of_at hv]
theorem kid_look_ok {w : World} {m n : Nat} {D : DataW Unit} {f : UInt8 → Option Nat} (h : kidsAt w m n D) (hD : KidMap D f) (c : UInt8) {x : Option Nat} (hx : f c = x) :
    (Instr.lookup 64 (.map (some m)) (.int .u8 c.toNat) true).run Try.prog w = .ok (.tuple #[ptrOf x, .bool x.isSome]) w := by
  obtain ⟨v, ps, hrun, hv⟩ := h.look_ok u8Law Try.underlying64 (zeroPtr _) (zd := .lit (.bool false)) (zp := []) rfl (u8key c)
  rw [hD.at_, hx] at hv
  rw [hD.has, hx] at hrun
  rw [hrun, ptr_of_at hv]

/-- What is said of a node's children. -/
def KidsAt (w : World) (T : Lay) (k : Key) (M : Nat) (mv : Value) : Prop :=
  (mv = .map none ∧ ∀ c, T.ad (k.kid c) = none) ∨
    ∃ m n D, mv = .map (some m) ∧ T.lab m = some (.map k) ∧ n ≤ M ∧ kidsAt w m n D ∧ KidMap D fun c => (T.ad (k.kid c)).map Prod.fst
/-- What is said of a node. -/
structure NodeAt (w : World) (T : Lay) (k : Key) (g o : Nat) (xs : List Int) (M : Nat) (v mv : Value) : Prop where
  home : T.lab g = some (homeOf k)
  c0 : w.cell? ⟨g, o, none⟩ = some v
  c1 : w.cell? ⟨g, o + 1, none⟩ = some mv
  f0 : w.frozen? ⟨g, o, none⟩ = false
  f1 : w.frozen? ⟨g, o + 1, none⟩ = false
  own : w.ownsRow 0 3 1 v xs.length (xs.map i64V)
  row : ∀ r, v.ownBlock = some r → T.lab r = some (.row k)
  few : xs.length ≤ M
  kids : KidsAt w T k M mv

structure Forest (w : World) (b : Nat) (T : Lay) (X : Key → List Int) (M : Nat) : Prop where
  lt : ∀ j r, T.lab j = some r → j < w.heap.size
  root : ∀ t, t < 3 → T.ad (t, []) = some (b, 2 * t)
  three : ∀ k a, T.ad k = some a → k.1 < 3
  node : ∀ k g o, T.ad k = some (g, o) → ∃ v mv, NodeAt w T k g o (X k) M v mv
  far : ∀ k g o, T.ad k = some (g, o) → k.2 ≠ [] → o = 0
  up : ∀ (k : Key) c a, T.ad (k.kid c) = some a → ∃ a', T.ad k = some a'
  nix : ∀ k, T.ad k = none → X k = []

/-- What a call may have done to the layout. -/
structure Ext (w : World) (T T' : Lay) : Prop where
  lab : ∀ j r, T.lab j = some r → T'.lab j = some r
  new : ∀ j r, T'.lab j = some r → T.lab j = some r ∨ w.heap.size ≤ j
  ad : ∀ k a, T.ad k = some a → T'.ad k = some a
theorem Ext.refl (w : World) (T : Lay) : Ext w T T := ⟨fun _ _ h => h, fun _ _ h => .inl h, fun _ _ h => h⟩
theorem Ext.trans {w w' : World} {T T' T'' : Lay} (h : Ext w T T') (k : Ext w' T' T'') (hs : w.heap.size ≤ w'.heap.size) : Ext w T T'' :=
  ⟨fun j r e => k.lab j r (h.lab j r e), fun j r e => by
    rcases k.new j r e with e | e
    · exact h.new j r e
    · exact .inr (by omega), fun x a e => k.ad x a (h.ad x a e)⟩
/-- The blocks that are a trie's. -/
def Lay.foot (T : Lay) (j : Nat) : Prop := ∃ r, T.lab j = some r

theorem homeOf_ne {k k' : Key} : homeOf k ≠ .row k' ∧ homeOf k ≠ .map k' := by
  unfold homeOf
  split <;> exact ⟨(fun h => by cases h), (fun h => by cases h)⟩
theorem homeOf_eq {k k' : Key} (h : homeOf k = homeOf k') : k = k' ∨ (k.2 = [] ∧ k'.2 = []) := by
  unfold homeOf at h
  split at h <;> split at h
  · rename_i h1 h2; exact .inr ⟨h1, h2⟩
  · cases h
  · cases h
  · injection h with h; exact .inl h

/-- Nothing of a node has turned. -/
theorem NodeAt.keep {w w' : World} {T T' : Lay} {k : Key} {g o M M' : Nat} {xs : List Int} {v mv : Value} (h : NodeAt w T k g o xs M v mv) (hM : M ≤ M')
    (hc : ∀ i, i = o ∨ i = o + 1 → w'.cell? ⟨g, i, Option.none⟩ = w.cell? ⟨g, i, Option.none⟩) (hf : ∀ i, i = o ∨ i = o + 1 → w'.frozen? ⟨g, i, Option.none⟩ = w.frozen? ⟨g, i, Option.none⟩)
    (hr : ∀ j, T.lab j = some (.row k) → w'.heap[j]? = w.heap[j]?) (hm : ∀ j, T.lab j = some (.map k) → w'.heap[j]? = w.heap[j]?)
    (hl : ∀ j r, T.lab j = some r → T'.lab j = some r) (ha : ∀ c, T'.ad (k.kid c) = T.ad (k.kid c)) : NodeAt w' T' k g o xs M' v mv where
  home := hl _ _ h.home
  c0 := (hc o (.inl rfl)).trans h.c0
  c1 := (hc _ (.inr rfl)).trans h.c1
  f0 := (hf o (.inl rfl)).trans h.f0
  f1 := (hf _ (.inr rfl)).trans h.f1
  own := ownsRow_block h.own fun r e => hr r (h.row r e)
  row := fun r e => hl _ _ (h.row r e)
  few := Nat.le_trans h.few hM
  kids := by
    rcases h.kids with ⟨e1, e2⟩ | ⟨m, n, D, e1, e2, e3, e4, e5⟩
    · exact .inl ⟨e1, fun c => (ha c).trans (e2 c)⟩
    · exact .inr ⟨m, n, D, e1, hl _ _ e2, Nat.le_trans e3 hM, ownsMap_block e4 (hm m e2), by simpa only [ha] using e5⟩

section
variable {w w' : World} {b : Nat} {T T' : Lay} {X X' : Key → List Int} {M M' : Nat}
theorem Forest.apart (h : Forest w b T X M) {k k' : Key} {g o g' o' : Nat} (hk : T.ad k = some (g, o)) (hk' : T.ad k' = some (g', o')) (hne : k' ≠ k) (hg : g' = g) :
    k.2 = [] ∧ k'.2 = [] ∧ o = 2 * k.1 ∧ o' = 2 * k'.1 ∧ k.1 ≠ k'.1 := by
  obtain ⟨v, mv, hn⟩ := h.node k g o hk
  obtain ⟨v', mv', hn'⟩ := h.node k' g' o' hk'
  have e := hn.home
  rw [← hg, hn'.home] at e
  injection e with e
  rcases homeOf_eq e with e | ⟨e1, e2⟩
  · exact absurd e hne
  · have r1 := h.root k.1 (h.three k _ hk)
    have r2 := h.root k'.1 (h.three k' _ hk')
    have q1 : (k.1, ([] : Nm)) = k := by rw [← e2]
    have q2 : (k'.1, ([] : Nm)) = k' := by rw [← e1]
    rw [q1, hk] at r1
    rw [q2, hk'] at r2
    injection r1 with r1
    injection r2 with r2
    injection r1 with _ r1
    injection r2 with _ r2
    exact ⟨e2, e1, r1, r2, fun h3 => hne (by rw [← q1, ← q2, h3])⟩
/-- One node has turned; what is new is its child. -/
theorem Forest.turn (h : Forest w b T X M) {k : Key} {g o : Nat} (hk : T.ad k = some (g, o)) (hM : M ≤ M')
    (hblk : ∀ j, j < w.heap.size → T.lab j ≠ some (.row k) → T.lab j ≠ some (.map k) → j ≠ g → w'.heap[j]? = w.heap[j]?)
    (hc : ∀ i, i ≠ o → i ≠ o + 1 → w'.cell? ⟨g, i, Option.none⟩ = w.cell? ⟨g, i, Option.none⟩) (hf : ∀ i, w'.frozen? ⟨g, i, Option.none⟩ = w.frozen? ⟨g, i, Option.none⟩)
    (hlt : ∀ j r, T'.lab j = some r → j < w'.heap.size) (hl : ∀ j r, T.lab j = some r → T'.lab j = some r)
    (ha : ∀ k', (∀ c, k' ≠ k.kid c) → T'.ad k' = T.ad k') (hold : ∀ k' a, T.ad k' = some a → T'.ad k' = some a)
    (hX : ∀ k', k' ≠ k → X' k' = X k') (hn : ∃ v mv, NodeAt w' T' k g o (X' k) M' v mv)
    (hnew : ∀ c a, T'.ad (k.kid c) = some a → T.ad (k.kid c) = Option.none → a.2 = 0 ∧ ∃ v mv, NodeAt w' T' (k.kid c) a.1 a.2 (X' (k.kid c)) M' v mv) : Forest w' b T' X' M' where
  lt := hlt
  root := fun t ht => hold _ _ (h.root t ht)
  three := fun k' a e => by
    cases e2 : T.ad k' with
    | some a2 => exact h.three k' a2 e2
    | none =>
      by_cases e3 : ∃ c, k' = k.kid c
      · obtain ⟨c, rfl⟩ := e3
        exact h.three k _ hk
      · rw [ha k' (fun c e4 => e3 ⟨c, e4⟩), e2] at e
        cases e
  far := fun k' g' o' e hk' => by
    cases e2 : T.ad k' with
    | some a2 =>
      have := hold _ _ e2
      rw [e] at this
      injection this with this
      subst this
      exact h.far k' g' o' e2 hk'
    | none =>
      by_cases e3 : ∃ c, k' = k.kid c
      · obtain ⟨c, rfl⟩ := e3
        exact (hnew c _ e e2).1
      · rw [ha k' (fun c e4 => e3 ⟨c, e4⟩), e2] at e
        cases e
  up := fun k' c a e => by
    cases e2 : T.ad (k'.kid c) with
    | some a2 =>
      obtain ⟨a3, e3⟩ := h.up k' c a2 e2
      exact ⟨a3, hold _ _ e3⟩
    | none =>
      by_cases e3 : ∃ c', k'.kid c = k.kid c'
      · obtain ⟨c', e3⟩ := e3
        obtain ⟨rfl, _⟩ := Key.kid_inj e3
        exact ⟨_, hold _ _ hk⟩
      · rw [ha _ (fun c' e4 => e3 ⟨c', e4⟩), e2] at e
        cases e
  nix := fun k' e => by
    have e2 : T.ad k' = Option.none := by
      cases e2 : T.ad k' with
      | none => rfl
      | some a => rw [hold _ _ e2] at e; cases e
    rw [hX k' (fun e3 => by rw [e3, hk] at e2; cases e2)]
    exact h.nix k' e2
  node := fun k' g' o' e => by
    by_cases e1 : k' = k
    · subst e1
      have := hold _ _ hk
      rw [e] at this
      injection this with this
      injection this with h1 h2
      subst h1 h2
      exact hn
    · cases e2 : T.ad k' with
      | some a2 =>
        have := hold _ _ e2
        rw [e] at this
        injection this with this
        subst this
        obtain ⟨v, mv, h1⟩ := h.node k' g' o' e2
        have hlt' := h.lt g' _ h1.home
        have hcell : ∀ i, i = o' ∨ i = o' + 1 → w'.cell? ⟨g', i, Option.none⟩ = w.cell? ⟨g', i, Option.none⟩ := by
          intro i hi
          by_cases eg : g' = g
          · obtain ⟨_, _, q1, q2, q3⟩ := h.apart hk e2 e1 eg
            rw [eg]
            exact hc i (by omega) (by omega)
          · exact World.cell?_of_block (hblk g' hlt' (fun x => by rw [h1.home] at x; injection x with x; exact homeOf_ne.1 x) (fun x => by rw [h1.home] at x; injection x with x; exact homeOf_ne.2 x) eg)
        have hfro : ∀ i, i = o' ∨ i = o' + 1 → w'.frozen? ⟨g', i, Option.none⟩ = w.frozen? ⟨g', i, Option.none⟩ := by
          intro i _
          by_cases eg : g' = g
          · rw [eg]
            exact hf i
          · exact World.frozen?_of_block (hblk g' hlt' (fun x => by rw [h1.home] at x; injection x with x; exact homeOf_ne.1 x) (fun x => by rw [h1.home] at x; injection x with x; exact homeOf_ne.2 x) eg)
        obtain ⟨vk, mvk, hnk⟩ := h.node k g o hk
        rw [hX k' e1]
        refine ⟨v, mv, h1.keep hM hcell hfro (fun j hj => ?_) (fun j hj => ?_) hl (fun c => ha _ fun c' e4 => e1 (Key.kid_inj e4).1)⟩
        · refine hblk j (h.lt j _ hj) (fun x => ?_) (fun x => ?_) (fun x => ?_)
          · rw [hj] at x; injection x with x; injection x with x; exact e1 x
          · rw [hj] at x; injection x with x; cases x
          · rw [x, hnk.home] at hj; injection hj with hj; exact homeOf_ne.1 hj
        · refine hblk j (h.lt j _ hj) (fun x => ?_) (fun x => ?_) (fun x => ?_)
          · rw [hj] at x; injection x with x; cases x
          · rw [hj] at x; injection x with x; injection x with x; exact e1 x
          · rw [x, hnk.home] at hj; injection hj with hj; exact homeOf_ne.2 hj
      | none =>
        by_cases e3 : ∃ c, k' = k.kid c
        · obtain ⟨c, rfl⟩ := e3
          exact (hnew c _ e e2).2
        · rw [ha k' (fun c e4 => e3 ⟨c, e4⟩), e2] at e
          cases e
/-- Nothing of a trie has turned. -/
theorem Forest.keep (h : Forest w b T X M) (hs : w.heap.size ≤ w'.heap.size) (hb : ∀ j r, T.lab j = some r → w'.heap[j]? = w.heap[j]?) : Forest w' b T X M where
  lt := fun j r e => Nat.lt_of_lt_of_le (h.lt j r e) hs
  root := h.root
  three := h.three
  far := h.far
  up := h.up
  nix := h.nix
  node := fun k g o e => by
    obtain ⟨v, mv, h1⟩ := h.node k g o e
    have hg := hb g _ h1.home
    exact ⟨v, mv, h1.keep (Nat.le_refl _) (fun i _ => World.cell?_of_block hg) (fun i _ => World.frozen?_of_block hg) (fun j hj => hb j _ hj) (fun j hj => hb j _ hj) (fun _ _ e => e) fun _ => rfl⟩
theorem Forest.kept {F : Nat → Prop} (h : Forest w b T X M) (hk : Kept F w w') (hF : ∀ j, F j → ¬ T.foot j) : Forest w' b T X M :=
  h.keep hk.size fun j r e => hk.block j (h.lt j r e) fun hf => hF j hf ⟨r, e⟩
theorem Forest.below {B : Nat} (h : Forest w b T X M) (hk : Below B w w') (hB : w.heap.size ≤ B) : Forest w' b T X M :=
  h.keep hk.size fun j r e => hk.block j (Nat.lt_of_lt_of_le (h.lt j r e) hB)
theorem Forest.drewN (h : Forest w b T X M) (n : Nat) : Forest (w.drewN n) b T X M := h.keep (Nat.le_refl _) fun _ _ _ => rfl
theorem Forest.alloc (h : Forest w b T X M) (o : Obj) : Forest (w.alloc o) b T X M := h.keep (by simp) fun j r e => Below.heap_alloc w o j (h.lt j r e)
theorem Forest.putObj (h : Forest w b T X M) {l : Nat} (hl : ¬ T.foot l) (o : Obj) : Forest (w.putObj l o) b T X M :=
  h.keep (by simp) fun j r e => World.putObj_heap_other (fun e2 => hl (by rw [← e2]; exact ⟨r, e⟩))
theorem Forest.more (h : Forest w b T X M) (hM : M ≤ M') : Forest w b T X M' :=
  ⟨h.lt, h.root, h.three, fun k g o e => by
    obtain ⟨v, mv, h1⟩ := h.node k g o e
    exact ⟨v, mv, h1.keep hM (fun _ _ => rfl) (fun _ _ => rfl) (fun _ _ => rfl) (fun _ _ => rfl) (fun _ _ e => e) fun _ => rfl⟩, h.far, h.up, h.nix⟩
end
end Go.Proofs.Ytjnbilcanfhkjaa
