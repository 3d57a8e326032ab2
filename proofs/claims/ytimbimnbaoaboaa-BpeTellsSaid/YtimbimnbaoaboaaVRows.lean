/- Rows of whatever size: of one's own, and appended to. -/
import Derived.Test.YtimbimnbaoaboaaVSee
import Derived.Maps.AppendAt
namespace Go.Proofs.Ytimbimnbaoaboaa
open Go.RowKit Go.Maps Go.WideMaps
set_option linter.unusedSimpArgs false

/-- What can be appended: m elements of some size, laid in a row, or nothing. -/
structure SrcN (w : World) (A : Option Addr) (m size : Nat) (xs : List Value) : Prop where
  len : xs.length = m * size
  cells : ∀ ad, A = some ad → ∀ j u, xs[j]? = some u → w.cell? (ad.add j) = some u
  nil : A = none → m = 0
theorem append_srcN {P : Program} (w : World) (base : Nat) (t ty e : TypeId) (i : TypeInfo) (z : Value) (size bytes : Nat) (ht : P.underlying t = some (.slice e)) (hi : P.info? e = some i) (hz : i.zero = some z)
    (hsize : i.size = size) (hby : i.bytes = bytes) (hzs : z.cells.size = size) (hsz : 0 < size) (v : Value) (n : Nat) (xs : List Value) (hown : w.ownsRow base e size v n xs)
    (A : Option Addr) (m c : Nat) (news : List Value) (hr : SrcN w A m size news) (h1 : ∀ u ∈ news, u.oneCell' = true)
    (h63 : n + m ≤ maxLen) (hbytes : (n + m) * bytes ≤ 140737488355328) (hbase : base ≤ w.heap.size) :
    ∃ v' w', (Builtin.append_ #[t, t] ty #[v, .slice A m c]).run P w = .ok v' w' ∧ w'.ownsRow base e size v' (n + m) (xs ++ news) ∧ w.grownBy w' v.ownBlock ∧
      (v'.ownBlock = v.ownBlock ∨ v'.ownBlock = some w.heap.size) := by
  cases A with
  | none =>
    have hm := hr.nil rfl
    subst hm
    have hn : news = [] := List.eq_nil_of_length_eq_zero (by rw [hr.len]; omega)
    subst hn
    refine ⟨v, w, ?_, by simpa using hown, World.grownBy.refl w _, .inl rfl⟩
    rcases hown.2 with ⟨rfl, rfl⟩ | ⟨g, cap, cur, rfl, _, _, hnc, _⟩
    · simp [Builtin.append_, run_underlying ht, sizeOf, typeInfo, hi, Builtin.lenOf, Builtin.firstCells]
    · simp [Builtin.append_, run_underlying ht, sizeOf, typeInfo, hi, Builtin.lenOf, Builtin.firstCells, hnc, storeCells]
  | some ad =>
    obtain ⟨v', w', hrun, h2, h3, _, h5⟩ := run_append_own_at (P := P) w base t ty e i z size bytes ht hi hz hsize hby hzs hsz v n xs hown ad m c news hr.len (hr.cells ad rfl) h1 h63 hbytes hbase
    exact ⟨v', w', hrun, h2, h3, h5⟩
theorem step_append_srcN {P : Program} (w : World) {ops : Array Oper} {o : Oper} {a : Act} {K : Act → World → Prop} {Q : Exit → Act → World → Prop} {E : Prop} (hgd : o.guard = none) (s x : Operand) (t : TypeId)
    (ho : o.op = .call { callee := .builtin .append, args := #[s, x], argTypes := #[t, t] })
    (base : Nat) (e : TypeId) (i : TypeInfo) (z : Value) (size bytes : Nat) (ht : P.underlying t = some (.slice e)) (hi : P.info? e = some i) (hz : i.zero = some z)
    (hsize : i.size = size) (hby : i.bytes = bytes) (hzs : z.cells.size = size) (hsz : 0 < size)
    (v : Value) (n : Nat) (xs : List Value) (hs : a.eval s = v) (hown : w.ownsRow base e size v n xs)
    (A : Option Addr) (m c : Nat) (news : List Value) (hx : a.eval x = .slice A m c) (hr : SrcN w A m size news) (h1 : ∀ u ∈ news, u.oneCell' = true)
    (h63 : n + m ≤ maxLen) (hbytes : (n + m) * bytes ≤ 140737488355328) (hbase : base ≤ w.heap.size)
    (h : ∀ v' w', w'.ownsRow base e size v' (n + m) (xs ++ news) → w.grownBy w' v.ownBlock → (v'.ownBlock = v.ownBlock ∨ v'.ownBlock = some w.heap.size) → K (a.put o.dst v') w') :
    if Region.wanted o (yielded ops a.tmps) = true then Oper.wp P o a w K Q else E := by
  have hw : Region.wanted o (yielded ops a.tmps) = true := by simp [Region.wanted, hgd]
  rw [if_pos hw]
  obtain ⟨v', w', hrun, h2, h3, h4⟩ := append_srcN (P := P) w base t o.type e i z size bytes ht hi hz hsize hby hzs hsz v n xs hown A m c news hr h1 h63 hbytes hbase
  unfold Oper.wp execOp
  simp only [ho, resolve, invoke, builtin, Sem.run_bind, Sem.run_pure, Result.andThen_ok, List.map_toArray, List.map_cons, List.map_nil, hs, hx, hrun]
  exact h v' w' h2 h3 h4
def prCells (p : Int × Int) : List Value := [.int .i64 p.1, .int .i64 p.2]
theorem prCells_len : ∀ l : List (Int × Int), (l.flatMap prCells).length = l.length * 2
  | [] => rfl
  | a :: r => by rw [List.flatMap_cons, List.length_append, prCells_len r, List.length_cons]; simp [prCells]; omega
theorem prCells_one (l : List (Int × Int)) : ∀ u ∈ l.flatMap prCells, u.oneCell' = true := by
  intro u hu
  obtain ⟨p, _, hp⟩ := List.mem_flatMap.1 hu
  simp only [prCells, List.mem_cons, List.not_mem_nil, or_false] at hp
  rcases hp with rfl | rfl <;> rfl
/-- The cells of a row, by element and by place within it. -/
theorem flat_at {α : Type} {f : α → List Value} {s : Nat} (hs : ∀ a, (f a).length = s) : ∀ (L : List α) (i j : Nat) (a : α) (u : Value), L[i]? = some a → (f a)[j]? = some u → (L.flatMap f)[i * s + j]? = some u
  | [], i, j, a, u, h1, _ => by simp at h1
  | b :: r, i, j, a, u, h1, h2 => by
    have hj : j < s := by have := (List.getElem?_eq_some_iff.1 h2).1; rw [hs] at this; exact this
    rw [List.flatMap_cons]
    cases i with
    | zero =>
      simp at h1
      subst h1
      rw [List.getElem?_append_left (by rw [hs]; omega)]
      simpa using h2
    | succ i =>
      simp at h1
      rw [List.getElem?_append_right (by rw [hs, Nat.add_mul]; omega)]
      have : (i + 1) * s + j - (f b).length = i * s + j := by rw [hs, Nat.add_mul]; omega
      rw [this]
      exact flat_at hs r i j a u h1 h2
theorem flat_inv {α : Type} {f : α → List Value} {s : Nat} (hs0 : 0 < s) (hs : ∀ a, (f a).length = s) (L : List α) (q : Nat) (u : Value) (h : (L.flatMap f)[q]? = some u) : ∃ a, L[q / s]? = some a ∧ (f a)[q % s]? = some u := by
  have hlen : ∀ L : List α, (L.flatMap f).length = L.length * s := fun L => by
    induction L with
    | nil => simp
    | cons a r ih => rw [List.flatMap_cons, List.length_append, ih, hs, List.length_cons, Nat.add_mul]; omega
  have hq := (List.getElem?_eq_some_iff.1 h).1
  rw [hlen] at hq
  have hi : q / s < L.length := (Nat.div_lt_iff_lt_mul hs0).2 hq
  have ha : L[q / s]? = some (L[q / s]'hi) := List.getElem?_eq_getElem _
  have hj : q % s < (f (L[q / s]'hi)).length := by rw [hs]; exact Nat.mod_lt _ hs0
  have hu := flat_at hs L (q / s) (q % s) _ _ ha (List.getElem?_eq_getElem hj)
  have e : q / s * s + q % s = q := by rw [Nat.mul_comm]; exact Nat.div_add_mod q s
  rw [e, h] at hu
  exact ⟨_, ha, by rw [hu]; exact List.getElem?_eq_getElem hj⟩
theorem PairsIn.src {w : World} {A : Option Addr} {n : Nat} {l : List (Int × Int)} (h : PairsIn w A n l) : SrcN w A n 2 (l.flatMap prCells) where
  len := by rw [prCells_len, h.len]
  cells := fun ad e q u hu => by
    obtain ⟨p, hp, hpu⟩ := flat_inv (s := 2) (by omega) (fun _ => rfl) l q u hu
    obtain ⟨c0, c1⟩ := h.cells ad e (q / 2) p hp
    have e2 : q / 2 * 2 + q % 2 = q := by omega
    have h2 : q % 2 < 2 := Nat.mod_lt _ (by omega)
    rcases Nat.lt_or_ge (q % 2) 1 with h0 | h0
    · have hz : q % 2 = 0 := by omega
      rw [hz] at hpu e2
      simp [prCells] at hpu
      rw [← hpu]
      have e3 : q = q / 2 * 2 := by omega
      rw [e3]
      have : q / 2 * 2 / 2 * 2 = q / 2 * 2 := by omega
      exact c0
    · have hz : q % 2 = 1 := by omega
      rw [hz] at hpu e2
      simp [prCells] at hpu
      rw [← hpu]
      have e3 : q = q / 2 * 2 + 1 := by omega
      rw [e3]
      exact c1
  nil := h.nil
theorem PairsIn.own {w : World} {base : Nat} {A : Option Addr} {n c : Nat} {l : List (Int × Int)} (h : w.ownsRow base 49 2 (.slice A n c) n (l.flatMap prCells)) (hl : l.length = n) (h63 : n ≤ maxLen) (hf : ∀ p ∈ l, fits64 p.1 ∧ fits64 p.2) : PairsIn w A n l where
  len := hl
  fit := h63
  vals := hf
  nil := fun e => by
    rcases h.2 with ⟨_, h0⟩ | ⟨g, cap, cur, h1, _⟩
    · exact h0
    · rw [e] at h1; cases h1
  cells := fun ad e i p hp => by
    subst e
    have hz : ad = ⟨ad.block, 0, none⟩ := by
      rcases h.2 with ⟨h1, _⟩ | ⟨g, cap, cur, h1, _⟩
      · cases h1
      · cases h1; rfl
    have hc := fun j u (hj : (prCells p)[j]? = some u) => h.cells (g := ad.block) rfl (i * 2 + j) u (flat_at (s := 2) (fun _ => rfl) l i j p u hp hj)
    have c0 := hc 0 _ rfl
    have c1 := hc 1 _ rfl
    rw [addr_add] at c0 c1
    rw [hz, addr_add, addr_add]
    exact ⟨c0, c1⟩
theorem pairInfo : (Try.prog.info? 49).map (fun i => (i.zero, i.size, i.bytes)) = some (some (.agg #[.int .i64 0, .int .i64 0]), 2, 16) := by kernel_rfl
theorem not_block {w : World} {g : Nat} {t : TypeId} {cs : Array Value} (hb : Blk w g t cs) {ad : Addr} {u : Value} (h : w.cell? ad = some u) (hcs : ∀ i : Nat, cs[i]? ≠ some u) : ad.block ≠ g := fun hg => by
  have hb' : w.heap[ad.block]? = some (.cells cs t (0, 0)) := by rw [hg]; exact hb
  unfold World.cell? at h
  rw [hb'] at h
  by_cases hs : ad.spot.isSome = true
  · simp [hs] at h
  · simp [hs] at h
    exact hcs _ h
/-- A vocabulary that can be read stays so while a block of two empty slices turns. -/
theorem VocSee.far {w w' : World} {A B : Option Addr} {n m ca cb : Nat} {V : Voc} (h : VocSee w A B n m ca cb V) (hs : ∀ x ∈ V.tok, 1 ≤ x.length) {g : Nat} {t : TypeId} (hb : Blk w g t #[.slice none 0 0, .slice none 0 0]) (hk : Kept (fun i => i = g) w w') : VocSee w' A B n m ca cb V where
  tok := ⟨h.tok.len, h.tok.fit, fun i x hx => by
    obtain ⟨ad, C, c, e1, e2, e3, e4⟩ := h.tok.at_ i x hx
    have hl := hs x (List.mem_of_getElem? hx)
    have hn := not_block hb e2 (fun i hi => by
      match i with
      | 0 => simp at hi; omega
      | 1 => simp at hi; omega
      | i + 2 => simp at hi)
    exact ⟨ad, C, c, e1, (hk.cell (World.block_lt_of_cell? w _ e2) hn).trans e2, e3, e4.keptF hk (not_bytes hb (fun i c => by
      match i with
      | 0 => simp [byteV]
      | 1 => simp [byteV]
      | i + 2 => simp) C x e4)⟩⟩
  mer := ⟨h.mer.len, h.mer.fit, fun i m hm => by
    obtain ⟨ad, e1, e2, e3, e4⟩ := h.mer.at_ i m hm
    have hno : ∀ (z : Int) (i : Nat), (#[.slice none 0 0, .slice none 0 0] : Array Value)[i]? ≠ some (.int .i64 z) := fun z i hi => by
      match i with
      | 0 => simp at hi
      | 1 => simp at hi
      | i + 2 => simp at hi
    exact ⟨ad, e1, (hk.cell (World.block_lt_of_cell? w _ e2) (not_block hb e2 (hno _))).trans e2, (hk.cell (World.block_lt_of_cell? w _ e3) (not_block hb e3 (hno _))).trans e3, (hk.cell (World.block_lt_of_cell? w _ e4) (not_block hb e4 (hno _))).trans e4⟩, h.mer.bound⟩
  capT := h.capT
  capM := h.capM
end Go.Proofs.Ytimbimnbaoaboaa
