/- A row of postings appended onto another one. -/
import Derived.Test.YthmjanhdjchdbaaKPostsG
import Derived.Test.YthmjanhdjchdbaaKOwn
namespace Go.Proofs.Ythmjanhdjchdbaa
open Go.RowKit Go.Maps Go.WideMaps

theorem append_srcN {P : Program} (w : World) (base : Nat) (t ty e : TypeId) (i : TypeInfo) (z : Value) (size bytes : Nat) (ht : P.underlying t = some (.slice e)) (hi : P.info? e = some i) (hz : i.zero = some z)
    (hsize : i.size = size) (hby : i.bytes = bytes) (hzs : z.cells.size = size) (hsz : 0 < size) (v : Value) (n : Nat) (xs : List Value) (hown : w.ownsRow base e size v n xs)
    (A : Option Addr) (m c : Nat) (news : List Value) (hl : news.length = m * size) (hc : ∀ ad, A = some ad → ∀ j u, news[j]? = some u → w.cell? (ad.add j) = some u) (hn : A = none → m = 0) (h1 : ∀ u ∈ news, u.oneCell' = true)
    (h63 : n + m ≤ maxLen) (hbytes : (n + m) * bytes ≤ 140737488355328) (hbase : base ≤ w.heap.size) :
    ∃ v' w', (Builtin.append_ #[t, t] ty #[v, .slice A m c]).run P w = .ok v' w' ∧ w'.ownsRow base e size v' (n + m) (xs ++ news) ∧ w.grownBy w' v.ownBlock ∧
      (v'.ownBlock = v.ownBlock ∨ v'.ownBlock = some w.heap.size) := by
  cases A with
  | none =>
    have hm := hn rfl
    subst hm
    have hn : news = [] := List.eq_nil_of_length_eq_zero (by rw [hl, Nat.zero_mul])
    subst hn
    refine ⟨v, w, ?_, by simpa using hown, World.grownBy.refl w _, .inl rfl⟩
    rcases hown.2 with ⟨rfl, rfl⟩ | ⟨g, cap, cur, rfl, _, _, hnc, _⟩
    · simp [Builtin.append_, run_underlying ht, sizeOf, typeInfo, hi, Builtin.lenOf, Builtin.firstCells]
    · simp [Builtin.append_, run_underlying ht, sizeOf, typeInfo, hi, Builtin.lenOf, Builtin.firstCells, hnc, storeCells]
  | some ad =>
    obtain ⟨v', w', hrun, h2, h3, _, h5⟩ := run_append_own_at (P := P) w base t ty e i z size bytes ht hi hz hsize hby hzs hsz v n xs hown ad m c news hl (hc ad rfl) h1 h63 hbytes hbase
    exact ⟨v', w', hrun, h2, h3, h5⟩
theorem wpList_append_srcN {P : Program} (w : World) {ops : Array Oper} {rest : List Oper} {o : Oper} {a : Act} {Q : Exit → Act → World → Prop} (hgd : o.guard = none) (s x : Operand) (t : TypeId)
    (ho : o.op = .call { callee := .builtin .append, args := #[s, x], argTypes := #[t, t] })
    (base : Nat) (e : TypeId) (i : TypeInfo) (z : Value) (size bytes : Nat) (ht : P.underlying t = some (.slice e)) (hi : P.info? e = some i) (hz : i.zero = some z)
    (hsize : i.size = size) (hby : i.bytes = bytes) (hzs : z.cells.size = size) (hsz : 0 < size)
    (v : Value) (n : Nat) (xs : List Value) (hs : a.eval s = v) (hown : w.ownsRow base e size v n xs)
    (A : Option Addr) (m c : Nat) (news : List Value) (hx : a.eval x = .slice A m c) (hl : news.length = m * size) (hc : ∀ ad, A = some ad → ∀ j u, news[j]? = some u → w.cell? (ad.add j) = some u) (hn : A = none → m = 0) (h1 : ∀ u ∈ news, u.oneCell' = true)
    (h63 : n + m ≤ maxLen) (hbytes : (n + m) * bytes ≤ 140737488355328) (hbase : base ≤ w.heap.size)
    (h : ∀ v' w', w'.ownsRow base e size v' (n + m) (xs ++ news) → w.grownBy w' v.ownBlock → (v'.ownBlock = v.ownBlock ∨ v'.ownBlock = some w.heap.size) → wpList P ops Q rest (a.put o.dst v') w') : wpList P ops Q (o :: rest) a w := by
  refine wpList_plain hgd fun K hK => ?_
  obtain ⟨v', w', hrun, h2, h3, h4⟩ := append_srcN (P := P) w base t o.type e i z size bytes ht hi hz hsize hby hzs hsz v n xs hown A m c news hl hc hn h1 h63 hbytes hbase
  unfold Oper.wp execOp
  simp only [ho, resolve, invoke, builtin, Sem.run_bind, Sem.run_pure, Result.andThen_ok, List.map_toArray, List.map_cons, List.map_nil, hs, hx, hrun]
  exact hK _ _ (h v' w' h2 h3 h4)
/-- A row of one's own, as a source. -/
theorem own_cells {w : World} {base size n c : Nat} {e : TypeId} {A : Option Addr} {xs : List Value} (h : w.ownsRow base e size (.slice A n c) n xs) : (∀ ad, A = some ad → ∀ j u, xs[j]? = some u → w.cell? (ad.add j) = some u) ∧ (A = none → n = 0) := by
  constructor
  · intro ad e1 j u hu
    subst e1
    have hz : ad = ⟨ad.block, 0, none⟩ := by
      rcases h.2 with ⟨h1, _⟩ | ⟨g, cap, cur, h1, _⟩
      · cases h1
      · cases h1; rfl
    have := h.cells (g := ad.block) rfl j u hu
    rw [hz]
    exact this
  · intro e1
    rcases h.2 with ⟨_, h0⟩ | ⟨g, cap, cur, h1, _⟩
    · exact h0
    · rw [e1] at h1; cases h1
theorem docs_one {w : World} {S : List (Int × Value)} {M : List (Int × List (Int × Int))} {far : Nat → Prop} (hl : S.length = M.length) (h2 : ∀ (i : Nat) (p : Int × Value) (x : Int × List (Int × Int)), S[i]? = some p → M[i]? = some x → PostAt w x p far) : ∀ u ∈ S.flatMap docCells, u.oneCell' = true := by
  intro u hu
  obtain ⟨p, hp, hup⟩ := List.mem_flatMap.1 hu
  obtain ⟨i, hi⟩ := List.getElem?_of_mem hp
  have hlt := (List.getElem?_eq_some_iff.1 hi).1
  obtain ⟨_, _, A, c, e, _⟩ := h2 i p _ hi (List.getElem?_eq_getElem (by omega : i < M.length))
  obtain ⟨d, sv⟩ := p
  simp only at e
  subst e
  exact doc_one _ _ _ _ u hup
theorem PostsO.le {w : World} {base base' : Nat} {v : Value} {L : List (Int × List (Int × Int))} (h : PostsO w base v L) (hb : base' ≤ base) : PostsO w base' v L := by
  obtain ⟨R, h0, h1, h2⟩ := h
  exact ⟨R, h0, rowBase_le h1 hb, fun i p x e1 e2 => (h2 i p x e1 e2).mono (fun i _ hf => ⟨rfl, Nat.le_trans hb hf.1, hf.2⟩) (Nat.le_refl _)⟩
theorem PostsO.cat {w w' : World} {base base2 : Nat} {v v' v2 : Value} {L M : List (Int × List (Int × Int))} {R S : List (Int × Value)} (hb : base ≤ base2) (hvb : ∀ g, v.ownBlock = some g → g < base2) (h0 : R.length = L.length) (k0 : S.length = M.length)
    (h2 : ∀ (i : Nat) (p : Int × Value) (x : Int × List (Int × Int)), R[i]? = some p → L[i]? = some x → PostAt w x p fun i => base ≤ i ∧ v.ownBlock ≠ some i)
    (k2 : ∀ (i : Nat) (p : Int × Value) (x : Int × List (Int × Int)), S[i]? = some p → M[i]? = some x → PostAt w x p fun i => base2 ≤ i ∧ v2.ownBlock ≠ some i)
    (ho : w'.ownsRow base 49 2 v' (L.length + M.length) (R.flatMap docCells ++ S.flatMap docCells)) (hg : w.grownBy w' v.ownBlock) (hloc : v'.ownBlock = v.ownBlock ∨ v'.ownBlock = some w.heap.size) : PostsO w' base v' (L ++ M) := by
  have keep : ∀ {y q}, PostAt w y q (fun i => base ≤ i ∧ v.ownBlock ≠ some i) → PostAt w' y q fun i => base ≤ i ∧ v'.ownBlock ≠ some i := fun h => h.mono (fun i hi hf => ⟨hg.block i hi (fun e => hf.2 e.symm), hf.1, by
    rcases hloc with e | e
    · rw [e]; exact hf.2
    · rw [e]
      intro e2
      have : w.heap.size = i := Option.some.inj e2
      omega⟩) hg.size
  refine ⟨R ++ S, by simp [h0, k0], by simpa using ho, fun i q y e1 e2 => ?_⟩
  rcases Nat.lt_or_ge i L.length with hi | hi
  · rw [List.getElem?_append_left (by omega)] at e1 e2
    exact keep (h2 i q y e1 e2)
  · rw [List.getElem?_append_right (by omega)] at e1 e2
    rw [h0] at e1
    exact keep ((k2 _ q y e1 e2).mono (fun j _ hf => ⟨rfl, by omega, fun e => by have := hvb j e; omega⟩) (Nat.le_refl _))
end Go.Proofs.Ythmjanhdjchdbaa
