/- Slices of structs of two integers that came in, of whatever name. Slices of slices of integers that came in. Rows of one's own: where they begin; a struct appended in a region that draws. Rows of one's own of structs of two integers. Postings: slices of an int and a slice of pairs of ints, to read. Postings of one's own: a row of structs of an int and a slice. A row of postings appended onto another one. bytes.Clone of whatever bytes. -/
import Derived.Test.YtkligdaademakaaKCore
import Derived.Deep.Fields
import Derived.Test.YtkligdaademakaaKInts
import Derived.Test.YtkligdaademakaaKHead
namespace Go.Proofs.Ytkligdaademakaa
open Go.RowKit Go.Maps Go.WideMaps Go.ChangeShapes Go.WideShapes Go.ChangeAt Go.Deep

def fits64 (x : Int) : Prop := -9223372036854775808 ≤ x ∧ x ≤ 9223372036854775807
/-- A slice of pairs that came in. -/
structure PairsIn (w : World) (A : Option Addr) (n : Nat) (l : List (Int × Int)) : Prop where
  len : l.length = n
  fit : n ≤ maxLen
  vals : ∀ p ∈ l, fits64 p.1 ∧ fits64 p.2
  nil : A = none → n = 0
  cells : ∀ ad, A = some ad → ∀ (i : Nat) (p : Int × Int), l[i]? = some p → w.cell? (ad.add (i * 2)) = some (.int .i64 p.1) ∧ w.cell? (ad.add (i * 2 + 1)) = some (.int .i64 p.2)
theorem PairsIn.below {w w' : World} {A : Option Addr} {n : Nat} {l : List (Int × Int)} (h : PairsIn w A n l) (hb : Below w.heap.size w w') : PairsIn w' A n l :=
  ⟨h.len, h.fit, h.vals, h.nil, fun ad e i p hp => by
    obtain ⟨h1, h2⟩ := h.cells ad e i p hp
    exact ⟨(hb.cell (World.block_lt_of_cell? w _ h1)).trans h1, (hb.cell (World.block_lt_of_cell? w _ h2)).trans h2⟩⟩
theorem add_pos' (ad : Addr) (i j : Nat) (h : 0 < j) : ad.add (i + j) = ⟨(ad.add i).block, (ad.add i).off + j, none⟩ := by
  unfold Addr.add
  split <;> split <;> (first | rfl | (simp_all; done) | (simp_all; omega) | (simp; omega))
/-- Where a pair lies, and its bounds. -/
theorem PairsIn.at {w : World} {A : Option Addr} {n : Nat} {l : List (Int × Int)} (h : PairsIn w A n l) (k : Nat) (hk : k < n) :
    ∃ ad p, A = some ad ∧ l[k]? = some p ∧ w.cell? (ad.add (k * 2)) = some (.int .i64 p.1) ∧ w.cell? ⟨(ad.add (k * 2)).block, (ad.add (k * 2)).off + 1, none⟩ = some (.int .i64 p.2) ∧ fits64 p.1 ∧ fits64 p.2 := by
  have hl := h.len
  cases hA : A with
  | none => have := h.nil hA; omega
  | some ad =>
    subst hA
    have hx : l[k]? = some (l[k]'(by omega)) := List.getElem?_eq_getElem _
    obtain ⟨h1, h2⟩ := h.cells ad rfl k _ hx
    have hv := h.vals _ (List.getElem_mem (h := (by omega : k < l.length)))
    rw [add_pos' _ _ _ (by omega)] at h2
    exact ⟨ad, _, rfl, hx, h1, h2, hv.1, hv.2⟩
section
variable {H : Type} {enc : TypeId × Value → H} {w : World}
set_option maxRecDepth 100000 in
theorem pair_in {e : TypeId} {fs : Array Field} {f0 f1 : Field} (he : Try.prog.underlying e = some (.struct fs)) (hf0 : fs[0]? = some f0) (hf1 : fs[1]? = some f1) (hs2 : fs.size = 2) (h2 : Try.prog.cellsOf e = 2)
    (t0 : Try.prog.underlying f0.type = some (.int .i64)) (t1 : Try.prog.underlying f1.type = some (.int .i64)) (c0 : Try.prog.cellsOf f0.type = 1) (c1 : Try.prog.cellsOf f1.type = 1) (o0 : f0.offset = 0) (o1 : f1.offset = 1)
    {cs : List Value} {x : DataW H × List MemPlace} {fuel : Nat} {base : Nat} {spare : Nat → Bool} {held : Bool} (h : DataW.trod enc Try.prog w base spare held fuel e cs = some x) :
    ∃ p : Int × Int, cs = [.int .i64 p.1, .int .i64 p.2] ∧ fits64 p.1 ∧ fits64 p.2 := by
  obtain ⟨ys, m, _, _, hlen, hy, hf⟩ := DataW.trod_struct he h
  rw [h2] at hlen
  have g0 := hf 0 _ hf0
  have g1 := hf 1 _ hf1
  rw [c0, o0, List.getElem?_eq_getElem (by omega)] at g0
  rw [c1, o1, List.getElem?_eq_getElem (by omega)] at g1
  match cs, hlen with
  | [a, b], _ =>
    simp only [List.drop_zero, List.drop_succ_cons, List.take_succ_cons, List.take_zero] at g0 g1
    obtain ⟨n0, e0, _, w0⟩ := DataW.trod_int t0 g0
    obtain ⟨n1, e1, _, w1⟩ := DataW.trod_int t1 g1
    simp only [List.cons.injEq, and_true] at e0 e1
    simp [Lit.wf, IntKind.min, IntKind.max, IntKind.signed, IntKind.bits] at w0 w1
    subst e0 e1
    exact ⟨(n0, n1), rfl, ⟨by show -9223372036854775808 ≤ n0; omega, by show n0 ≤ 9223372036854775807; omega⟩, ⟨by show -9223372036854775808 ≤ n1; omega, by show n1 ≤ 9223372036854775807; omega⟩⟩
theorem pairs_in {t e : TypeId} (ht : Try.prog.underlying t = some (.slice e)) (h2 : Try.prog.cellsOf e = 2)
    (hp : ∀ {cs : List Value} {x : DataW H × List MemPlace} {fuel : Nat} {base : Nat} {spare : Nat → Bool} {held : Bool}, DataW.trod enc Try.prog w base spare held fuel e cs = some x → ∃ p : Int × Int, cs = [.int .i64 p.1, .int .i64 p.2] ∧ fits64 p.1 ∧ fits64 p.2)
    {A : Option Addr} {n c : Nat} {x : DataW H × List MemPlace} {fuel : Nat} {base : Nat} {spare : Nat → Bool} {held : Bool} (h : DataW.trod enc Try.prog w base spare held fuel t [.slice A n c] = some x) : ∃ l, PairsIn w A n l := by
  rcases open_slice ht h with ⟨hcs, _⟩ | ⟨a, len, cap, m, f, D, Pl, hcs, _, hl, hm, hmm, hx, hi⟩
  · simp only [List.cons.injEq, Value.slice.injEq, and_true] at hcs
    obtain ⟨rfl, rfl, rfl⟩ := hcs
    exact ⟨[], rfl, by unfold maxLen; omega, by simp, fun _ => rfl, fun ad e => by cases e⟩
  · simp only [List.cons.injEq, Value.slice.injEq, and_true] at hcs
    obtain ⟨rfl, rfl, rfl⟩ := hcs
    have hlm : n ≤ m := by rw [hmm]; split <;> omega
    have hex : ∀ i, i < n → ∃ p : Int × Int, (fits64 p.1 ∧ fits64 p.2) ∧ w.cell? (a.add (i * 2)) = some (.int .i64 p.1) ∧ w.cell? (a.add (i * 2 + 1)) = some (.int .i64 p.2) := by
      intro i hlt
      obtain ⟨cs', hc, hd⟩ := hi i (by omega)
      rw [h2] at hc
      obtain ⟨p, rfl, h3, h4⟩ := hp hd
      obtain ⟨_, _, hat⟩ := World.cells?_some hc
      have k0 := hat 0 (by simp)
      have k1 := hat 1 (by simp)
      rw [add_add] at k0 k1
      exact ⟨p, ⟨h3, h4⟩, k0, k1⟩
    have hw : ∀ k, k ≤ n → ∃ l : List (Int × Int), l.length = k ∧ (∀ p ∈ l, fits64 p.1 ∧ fits64 p.2) ∧ ∀ (i : Nat) (p : Int × Int), l[i]? = some p → w.cell? (a.add (i * 2)) = some (.int .i64 p.1) ∧ w.cell? (a.add (i * 2 + 1)) = some (.int .i64 p.2) := by
      intro k
      induction k with
      | zero => intro _; exact ⟨[], rfl, by simp, by simp⟩
      | succ k ih =>
        intro hk
        obtain ⟨l, h1, h3, h4⟩ := ih (by omega)
        obtain ⟨p, h5, h6⟩ := hex k (by omega)
        refine ⟨l ++ [p], by simp [h1], fun y hy => ?_, fun i y hy => ?_⟩
        · rcases List.mem_append.1 hy with h | h
          · exact h3 y h
          · rw [List.mem_singleton.1 h]; exact h5
        · rcases Nat.lt_or_ge i k with hik | hik
          · rw [List.getElem?_append_left (by omega)] at hy
            exact h4 i y hy
          · have hlt := (List.getElem?_eq_some_iff.1 hy).1
            simp [h1] at hlt
            obtain rfl : i = k := by omega
            rw [List.getElem?_append_right (by omega), h1, Nat.sub_self] at hy
            simp at hy
            subst hy
            exact h6
    obtain ⟨l, h1, h3, h4⟩ := hw n (Nat.le_refl _)
    exact ⟨l, h1, by omega, h3, (fun e => by cases e), fun ad e => by cases e; exact h4⟩
end
end Go.Proofs.Ytkligdaademakaa
namespace Go.Proofs.Ytkligdaademakaa
open Go.RowKit Go.Maps Go.WideMaps Go.ChangeShapes Go.WideShapes Go.ChangeAt Go.Deep

/-- What can be read: each row, in order. -/
structure RowsSeeI (w : World) (A : Option Addr) (n : Nat) (L : List (List Int)) : Prop where
  len : L.length = n
  fit : n ≤ maxLen
  at_ : ∀ (i : Nat) (x : List Int), L[i]? = some x → ∃ ad B c, A = some ad ∧ w.cell? (ad.add i) = some (.slice B x.length c) ∧ x.length ≤ c ∧ IntsIn w B x.length x
theorem RowsSeeI.below {w w' : World} {A : Option Addr} {n : Nat} {L : List (List Int)} (h : RowsSeeI w A n L) (hb : Below w.heap.size w w') : RowsSeeI w' A n L :=
  ⟨h.len, h.fit, fun i x hx => by
    obtain ⟨ad, B, c, h1, h2, h3, h4⟩ := h.at_ i x hx
    exact ⟨ad, B, c, h1, (hb.cell (World.block_lt_of_cell? w _ h2)).trans h2, h3, h4.below hb⟩⟩
section
variable {H : Type} {enc : TypeId × Value → H} {w : World}
theorem ints_shape {A : Value} {x : DataW H × List MemPlace} {fuel : Nat} {base : Nat} {spare : Nat → Bool} {held : Bool} (h : DataW.trod enc Try.prog w base spare held fuel 26 [A] = some x) : ∃ C k cc, A = .slice C k cc ∧ k ≤ cc := by
  rcases open_slice Try.underlying26 h with ⟨hcs, _⟩ | ⟨a, len, cap, m, f, D, Pl, hcs, _, hl, hm, hmm, hx, hi⟩
  · simp only [List.cons.injEq, and_true] at hcs
    exact ⟨none, 0, 0, hcs, Nat.le_refl _⟩
  · simp only [List.cons.injEq, and_true] at hcs
    exact ⟨some a, len, cap, hcs, hl⟩
set_option maxRecDepth 100000 in
/-- A slice of slices of integers that came in. -/
theorem rowsI_in {A : Option Addr} {n c : Nat} {x : DataW H × List MemPlace} {fuel : Nat} {base : Nat} {spare : Nat → Bool} {held : Bool} (h : DataW.trod enc Try.prog w base spare held fuel 59 [.slice A n c] = some x) : ∃ L, RowsSeeI w A n L := by
  rcases open_slice Try.underlying59 h with ⟨hcs, _⟩ | ⟨a, len, cap, m, f, D, Pl, hcs, _, hl, hm, hmm, hx, hi⟩
  · simp only [List.cons.injEq, Value.slice.injEq, and_true] at hcs
    obtain ⟨rfl, rfl, rfl⟩ := hcs
    exact ⟨[], rfl, by unfold maxLen; omega, by simp⟩
  · simp only [List.cons.injEq, Value.slice.injEq, and_true] at hcs
    obtain ⟨rfl, rfl, rfl⟩ := hcs
    have hlm : n ≤ m := by rw [hmm]; split <;> omega
    have cO : Try.prog.cellsOf 26 = 1 := by kernel_rfl
    have cI : Try.prog.cellsOf 2 = 1 := by kernel_rfl
    have hex : ∀ i, i < n → ∃ (y : List Int) (B : Option Addr) (cb : Nat), w.cell? (a.add i) = some (.slice B y.length cb) ∧ y.length ≤ cb ∧ IntsIn w B y.length y := by
      intro i hlt
      obtain ⟨cs', hc, ht⟩ := hi i (by omega)
      rw [cO] at hc
      obtain ⟨hsz, _, hat⟩ := World.cells?_some hc
      obtain ⟨u, rfl⟩ : ∃ u, cs' = [u] := by
        match cs', hsz with
        | [u], _ => exact ⟨u, rfl⟩
      obtain ⟨B, bn, bc, rfl, hbc⟩ := ints_shape ht
      obtain ⟨y, hy⟩ := ints_in Try.underlying26 Try.underlying2 cI ht
      have hyl : y.length = bn := hy.len
      subst hyl
      refine ⟨y, B, bc, ?_, hbc, hy⟩
      have := hat 0 (by simp)
      simpa [Addr.add] using this
    have hw : ∀ k, k ≤ n → ∃ L : List (List Int), L.length = k ∧ ∀ (i : Nat) (y : List Int), L[i]? = some y → ∃ B cb, w.cell? (a.add i) = some (.slice B y.length cb) ∧ y.length ≤ cb ∧ IntsIn w B y.length y := by
      intro k
      induction k with
      | zero => intro _; exact ⟨[], rfl, by simp⟩
      | succ k ih =>
        intro hk
        obtain ⟨L, h1, h2⟩ := ih (by omega)
        obtain ⟨y, B, cb, h3, h4, h5⟩ := hex k (by omega)
        refine ⟨L ++ [y], by simp [h1], fun i z hz => ?_⟩
        rcases Nat.lt_or_ge i k with hik | hik
        · rw [List.getElem?_append_left (by omega)] at hz
          exact h2 i z hz
        · have hlt := (List.getElem?_eq_some_iff.1 hz).1
          simp [h1] at hlt
          obtain rfl : i = k := by omega
          rw [List.getElem?_append_right (by omega), h1, Nat.sub_self] at hz
          simp at hz
          subst hz
          exact ⟨B, cb, h3, h4, h5⟩
    obtain ⟨L, h1, h2⟩ := hw n (Nat.le_refl _)
    exact ⟨L, h1, by omega, fun i y hy => by
      obtain ⟨B, cb, h3, h4, h5⟩ := h2 i y hy
      exact ⟨a, B, cb, rfl, h3, h4, h5⟩⟩
end
end Go.Proofs.Ytkligdaademakaa
namespace Go.Proofs.Ytkligdaademakaa
open Go.RowKit Go.Maps Go.WideMaps

/-- A row of one's own begins no lower than any number below. -/
theorem rowBase_le {w : World} {base base' : Nat} {e : TypeId} {size n : Nat} {v : Value} {xs : List Value} (h : w.ownsRow base e size v n xs) (hb : base' ≤ base) : w.ownsRow base' e size v n xs :=
  ⟨h.1, h.2.imp id fun ⟨g, cap, cur, h1, h2, h3⟩ => ⟨g, cap, cur, h1, Nat.le_trans hb h2, h3⟩⟩
/-- It has room for what it holds. -/
theorem rowCap_le {w : World} {base : Nat} {e : TypeId} {size n c m : Nat} {A : Option Addr} {xs : List Value} (h : w.ownsRow base e size (.slice A n c) m xs) : n ≤ c := by
  rcases h.2 with ⟨h1, _⟩ | ⟨g, cap, cur, h1, _, _, h2, _⟩
  · cases h1; exact Nat.le_refl _
  · cases h1; exact h2
/-- The append of a struct, as a step of a region that draws. -/
theorem step_append_recK {P : Program} (w : World) {ops : Array Oper} {o : Oper} {a : Act} {K : Act → World → Prop} {Q : Exit → Act → World → Prop} {E : Prop} (hgd : o.guard = none) (s x : Operand) (t : TypeId)
    (ho : o.op = .call { callee := .builtin .append, args := #[s, x], argTypes := #[t, t] })
    (base : Nat) (e : TypeId) (i : TypeInfo) (z : Value) (size bytes : Nat) (ht : P.underlying t = some (.slice e)) (hi : P.info? e = some i) (hz : i.zero = some z)
    (hsize : i.size = size) (hby : i.bytes = bytes) (hzs : z.cells.size = size) (hsz : 0 < size)
    (v : Value) (n : Nat) (xs : List Value) (hs : a.eval s = v) (hown : w.ownsRow base e size v n xs)
    (ad : Addr) (m c : Nat) (news : List Value) (hx : a.eval x = .slice (some ad) m c) (hl : news.length = m * size) (hnews : ∀ j u, news[j]? = some u → w.cell? (ad.add j) = some u) (h1 : ∀ u ∈ news, u.oneCell' = true)
    (h63 : n + m ≤ maxLen) (hbytes : (n + m) * bytes ≤ 140737488355328) (hbase : base ≤ w.heap.size)
    (h : ∀ v' w', w'.ownsRow base e size v' (n + m) (xs ++ news) → w.grownBy w' v.ownBlock → (v'.ownBlock = v.ownBlock ∨ v'.ownBlock = some w.heap.size) → K (a.put o.dst v') w') :
    if Region.wanted o (yielded ops a.tmps) = true then Oper.wp P o a w K Q else E := by
  have hw : Region.wanted o (yielded ops a.tmps) = true := by simp [Region.wanted, hgd]
  rw [if_pos hw]
  obtain ⟨v', w', hrun, h2, h3, _, h4⟩ := run_append_own_at (P := P) w base t o.type e i z size bytes ht hi hz hsize hby hzs hsz v n xs hown ad m c news hl hnews h1 h63 hbytes hbase
  unfold Oper.wp execOp
  simp only [ho, resolve, invoke, builtin, Sem.run_bind, Sem.run_pure, Result.andThen_ok, List.map_toArray, List.map_cons, List.map_nil, hs, hx, hrun]
  exact h v' w' h2 h3 h4
end Go.Proofs.Ytkligdaademakaa
namespace Go.Proofs.Ytkligdaademakaa
open Go.RowKit Go.Maps Go.WideMaps

def twoCells (p : Int × Int) : List Value := [.int .i64 p.1, .int .i64 p.2]
theorem two_len (l : List (Int × Int)) : (l.flatMap twoCells).length = l.length * 2 := by
  induction l with
  | nil => rfl
  | cons a r ih => rw [List.flatMap_cons, List.length_append, ih, List.length_cons]; simp [twoCells]; omega
theorem two_at : ∀ (l : List (Int × Int)) (i j : Nat) (p : Int × Int) (u : Value), l[i]? = some p → (twoCells p)[j]? = some u → (l.flatMap twoCells)[i * 2 + j]? = some u
  | [], i, j, p, u, h, _ => by simp at h
  | a :: r, 0, j, p, u, h, h2 => by
    simp at h
    subst h
    rw [List.flatMap_cons, List.getElem?_append_left (by have := (List.getElem?_eq_some_iff.1 h2).1; omega)]
    simpa using h2
  | a :: r, i + 1, j, p, u, h, h2 => by
    have hl : (twoCells a).length = 2 := rfl
    rw [List.flatMap_cons, List.getElem?_append_right (by omega), hl, show (i + 1) * 2 + j - 2 = i * 2 + j by omega]
    exact two_at r i j p u (by simpa using h) h2
theorem two_one (p : Int × Int) : ∀ u ∈ twoCells p, u.oneCell' = true := fun u hu => by
  simp [twoCells] at hu
  rcases hu with rfl | rfl <;> rfl
/-- A pair in a new block, as a source. -/
theorem two_new (w : World) (e : TypeId) (p : Int × Int) : ∀ (j : Nat) (u : Value), (twoCells p)[j]? = some u → (w.alloc (.cells #[.int .i64 p.1, .int .i64 p.2] e)).cell? ((⟨w.heap.size, 0, none⟩ : Addr).add j) = some u := by
  intro j u h
  have hB := Blk.new w e #[.int .i64 p.1, .int .i64 p.2]
  match j with
  | 0 =>
    simp [twoCells] at h
    subst h
    exact hB.cell 0
  | 1 =>
    simp [twoCells] at h
    subst h
    exact hB.cell 1
  | j + 2 => simp [twoCells] at h
theorem PairsIn.ownTwo {w : World} {base : Nat} {e : TypeId} {A : Option Addr} {n c : Nat} {l : List (Int × Int)} (h : w.ownsRow base e 2 (.slice A n c) n (l.flatMap twoCells)) (hl : l.length = n) (h63 : n ≤ maxLen) (hf : ∀ p ∈ l, fits64 p.1 ∧ fits64 p.2) : PairsIn w A n l where
  len := hl
  fit := h63
  vals := hf
  nil := fun e1 => by
    rcases h.2 with ⟨_, h0⟩ | ⟨g, cap, cur, h1, _⟩
    · exact h0
    · rw [e1] at h1; cases h1
  cells := fun ad e1 i p hp => by
    subst e1
    have hz : ad = ⟨ad.block, 0, none⟩ := by
      rcases h.2 with ⟨h1, _⟩ | ⟨g, cap, cur, h1, _⟩
      · cases h1
      · cases h1; rfl
    have hc := fun j u (hj : (twoCells p)[j]? = some u) => h.cells (g := ad.block) rfl (i * 2 + j) u (two_at l i j p u hp hj)
    have c0 := hc 0 _ rfl
    have c1 := hc 1 _ rfl
    have ha : ∀ k, (⟨ad.block, 0, none⟩ : Addr).add k = ⟨ad.block, k, none⟩ := fun k => by
      unfold Addr.add
      split
      · rename_i h0; rw [h0]
      · simp
    rw [ha] at c0 c1
    rw [hz, ha, ha]
    exact ⟨c0, c1⟩
theorem PairsIn.drewN {w : World} {A : Option Addr} {n : Nat} {l : List (Int × Int)} (h : PairsIn w A n l) (q : Nat) : PairsIn (w.drewN q) A n l := h.below (below_drewN (Below.refl _ _) q)
end Go.Proofs.Ytkligdaademakaa
namespace Go.Proofs.Ytkligdaademakaa
open Go.RowKit Go.Maps Go.WideMaps

structure PostsSee (w : World) (A : Option Addr) (n : Nat) (l : List (Int × List (Int × Int))) : Prop where
  len : l.length = n
  fit : n ≤ maxLen
  nil : A = none → n = 0
  at_ : ∀ ad, A = some ad → ∀ (i : Nat) (x : Int × List (Int × Int)), l[i]? = some x → fits64 x.1 ∧ w.cell? (ad.add (i * 2)) = some (.int .i64 x.1) ∧ ∃ B c, w.cell? (ad.add (i * 2 + 1)) = some (.slice B x.2.length c) ∧ x.2.length ≤ c ∧ PairsIn w B x.2.length x.2
theorem PostsSee.below {w w' : World} {A : Option Addr} {n : Nat} {l : List (Int × List (Int × Int))} (h : PostsSee w A n l) (hb : Below w.heap.size w w') : PostsSee w' A n l where
  len := h.len
  fit := h.fit
  nil := h.nil
  at_ := fun ad e i x hx => by
    obtain ⟨h1, h2, B, c, h3, h4, h5⟩ := h.at_ ad e i x hx
    exact ⟨h1, below_cells hb h2, B, c, below_cells hb h3, h4, h5.below hb⟩
theorem PostsSee.drewN {w : World} {A : Option Addr} {n : Nat} {l : List (Int × List (Int × Int))} (h : PostsSee w A n l) (q : Nat) : PostsSee (w.drewN q) A n l := h.below (below_drewN (Below.refl _ _) q)
theorem PostsSee.at {w : World} {A : Option Addr} {n : Nat} {l : List (Int × List (Int × Int))} (h : PostsSee w A n l) (k : Nat) (hk : k < n) :
    ∃ ad x B c, A = some ad ∧ l[k]? = some x ∧ fits64 x.1 ∧ w.cell? (ad.add (k * 2)) = some (.int .i64 x.1) ∧ w.cell? ⟨(ad.add (k * 2)).block, (ad.add (k * 2)).off + 1, none⟩ = some (.slice B x.2.length c) ∧ x.2.length ≤ c ∧ PairsIn w B x.2.length x.2 := by
  have hl := h.len
  cases hA : A with
  | none => have := h.nil hA; omega
  | some ad =>
    subst hA
    have hx : l[k]? = some (l[k]'(by omega)) := List.getElem?_eq_getElem _
    obtain ⟨h1, h2, B, c, h3, h4, h5⟩ := h.at_ ad rfl k _ hx
    rw [add_pos' _ _ _ (by omega)] at h3
    exact ⟨ad, _, B, c, rfl, hx, h1, h2, h3, h4, h5⟩
end Go.Proofs.Ytkligdaademakaa
namespace Go.Proofs.Ytkligdaademakaa
open Go.RowKit Go.Maps Go.WideMaps

def docCells (p : Int × Value) : List Value := [.int .i64 p.1, p.2]
theorem doc_len (l : List (Int × Value)) : (l.flatMap docCells).length = l.length * 2 := by
  induction l with
  | nil => rfl
  | cons a r ih => rw [List.flatMap_cons, List.length_append, ih, List.length_cons]; simp [docCells]; omega
theorem doc_at : ∀ (l : List (Int × Value)) (i j : Nat) (p : Int × Value) (u : Value), l[i]? = some p → (docCells p)[j]? = some u → (l.flatMap docCells)[i * 2 + j]? = some u
  | [], i, j, p, u, h, _ => by simp at h
  | a :: r, 0, j, p, u, h, h2 => by
    simp at h
    subst h
    rw [List.flatMap_cons, List.getElem?_append_left (by have := (List.getElem?_eq_some_iff.1 h2).1; omega)]
    simpa using h2
  | a :: r, i + 1, j, p, u, h, h2 => by
    have hl : (docCells a).length = 2 := rfl
    rw [List.flatMap_cons, List.getElem?_append_right (by omega), hl, show (i + 1) * 2 + j - 2 = i * 2 + j by omega]
    exact doc_at r i j p u (by simpa using h) h2
theorem doc_one (d : Int) (A : Option Addr) (n c : Nat) : ∀ u ∈ docCells (d, .slice A n c), u.oneCell' = true := fun u hu => by
  simp [docCells] at hu
  rcases hu with rfl | rfl <;> rfl
/-- A struct in a block, as a source. -/
theorem doc_src {w : World} {g : Nat} {e : TypeId} {p : Int × Value} (h : Blk w g e #[.int .i64 p.1, p.2]) : ∀ (j : Nat) (u : Value), (docCells p)[j]? = some u → w.cell? ((⟨g, 0, none⟩ : Addr).add j) = some u := by
  intro j u hu
  match j with
  | 0 =>
    simp [docCells] at hu
    subst hu
    exact h.cell 0
  | 1 =>
    simp [docCells] at hu
    subst hu
    exact h.cell 1
  | j + 2 => simp [docCells] at hu
/-- Of one posting: what its struct holds, and where its spots lie. -/
def PostAt (w : World) (x : Int × List (Int × Int)) (p : Int × Value) (far : Nat → Prop) : Prop :=
  p.1 = x.1 ∧ fits64 x.1 ∧ ∃ A c, p.2 = .slice A x.2.length c ∧ x.2.length ≤ c ∧ PairsIn w A x.2.length x.2 ∧ ∀ ad, A = some ad → 0 < x.2.length → ad.block < w.heap.size ∧ far ad.block
theorem PostAt.mono {w w' : World} {x : Int × List (Int × Int)} {p : Int × Value} {f g : Nat → Prop} (h : PostAt w x p f) (hk : ∀ i, i < w.heap.size → f i → w'.heap[i]? = w.heap[i]? ∧ g i) (hs : w.heap.size ≤ w'.heap.size) : PostAt w' x p g := by
  obtain ⟨h1, h2, A, c, h3, h4, h5, h6⟩ := h
  refine ⟨h1, h2, A, c, h3, h4, ⟨h5.len, h5.fit, h5.vals, h5.nil, fun ad e i q hq => ?_⟩, fun ad e h0 => ⟨Nat.lt_of_lt_of_le (h6 ad e h0).1 hs, (hk _ (h6 ad e h0).1 (h6 ad e h0).2).2⟩⟩
  have hlt := (List.getElem?_eq_some_iff.1 hq).1
  obtain ⟨q1, q2⟩ := h6 ad e (by omega)
  obtain ⟨c1, c2⟩ := h5.cells ad e i q hq
  have hb := (hk _ q1 q2).1
  have hblk : ∀ k, (ad.add k).block = ad.block := fun k => by unfold Addr.add; split <;> rfl
  exact ⟨(World.cell?_of_block (by rw [hblk]; exact hb)).trans c1, (World.cell?_of_block (by rw [hblk]; exact hb)).trans c2⟩
/-- A row of postings of one's own. -/
def PostsO (w : World) (base : Nat) (v : Value) (L : List (Int × List (Int × Int))) : Prop :=
  ∃ R : List (Int × Value), R.length = L.length ∧ w.ownsRow base 52 2 v L.length (R.flatMap docCells) ∧ ∀ (i : Nat) (p : Int × Value) (x : Int × List (Int × Int)), R[i]? = some p → L[i]? = some x → PostAt w x p fun i => base ≤ i ∧ v.ownBlock ≠ some i
theorem PostsO.nil (w : World) (base : Nat) : PostsO w base (.slice none 0 0) [] := ⟨[], rfl, ⟨rfl, .inl ⟨rfl, rfl⟩⟩, fun i p x h _ => by simp at h⟩
theorem PostsO.below {w w' : World} {base : Nat} {v : Value} {L : List (Int × List (Int × Int))} (h : PostsO w base v L) (hb : Below w.heap.size w w') : PostsO w' base v L := by
  obtain ⟨R, h0, h1, h2⟩ := h
  exact ⟨R, h0, ownsRow_block h1 fun g hg => hb.block g (h1.lt g hg).2, fun i p x e1 e2 => (h2 i p x e1 e2).mono (fun i hi hf => ⟨hb.block i hi, hf⟩) hb.size⟩
/-- Its blocks, and no others, matter. -/
theorem PostsO.keepIn {w w' : World} {base : Nat} {v : Value} {L : List (Int × List (Int × Int))} (h : PostsO w base v L) (hk : ∀ i, base ≤ i → i < w.heap.size → w'.heap[i]? = w.heap[i]?) (hs : w.heap.size ≤ w'.heap.size) : PostsO w' base v L := by
  obtain ⟨R, h0, h1, h2⟩ := h
  exact ⟨R, h0, ownsRow_block h1 fun g hg => hk g (h1.lt g hg).1 (h1.lt g hg).2, fun i p x e1 e2 => (h2 i p x e1 e2).mono (fun i hi hf => ⟨hk i hf.1 hi, hf⟩) hs⟩
theorem PostsO.see {w : World} {base n c : Nat} {A : Option Addr} {L : List (Int × List (Int × Int))} (h : PostsO w base (.slice A n c) L) (hn : L.length = n) (h63 : n ≤ maxLen) : PostsSee w A n L where
  len := hn
  fit := h63
  nil := fun e => by
    obtain ⟨R, h0, h1, h2⟩ := h
    rcases h1.2 with ⟨_, h3⟩ | ⟨g, cap, cur, h3, _⟩
    · omega
    · rw [e] at h3; cases h3
  at_ := fun ad e i x hx => by
    obtain ⟨R, h0, h1, h2⟩ := h
    subst e
    have hz : ad = ⟨ad.block, 0, none⟩ := by
      rcases h1.2 with ⟨h3, _⟩ | ⟨g, cap, cur, h3, _⟩
      · cases h3
      · cases h3; rfl
    have hlt := (List.getElem?_eq_some_iff.1 hx).1
    obtain ⟨p, hp⟩ : ∃ p, R[i]? = some p := ⟨_, List.getElem?_eq_getElem (by omega)⟩
    obtain ⟨q1, q2, B, cc, q3, q4, q5, q6⟩ := h2 i p x hp hx
    have hc := fun j u (hj : (docCells p)[j]? = some u) => h1.cells (g := ad.block) rfl (i * 2 + j) u (doc_at R i j p u hp hj)
    have c0 := hc 0 _ rfl
    have c1 := hc 1 _ rfl
    have ha : ∀ k, (⟨ad.block, 0, none⟩ : Addr).add k = ⟨ad.block, k, none⟩ := fun k => by
      unfold Addr.add
      split
      · rename_i h0; rw [h0]
      · simp
    rw [ha] at c0 c1
    refine ⟨q2, ?_, B, cc, ?_, q4, q5⟩
    · rw [hz, ha, ← q1]; exact c0
    · rw [hz, ha, ← q3]; exact c1
/-- One posting more. -/
theorem PostsO.push {w w' : World} {base : Nat} {v v' : Value} {L : List (Int × List (Int × Int))} {x : Int × List (Int × Int)} {p : Int × Value} {R : List (Int × Value)} (h0 : R.length = L.length)
    (h2 : ∀ (i : Nat) (p : Int × Value) (x : Int × List (Int × Int)), R[i]? = some p → L[i]? = some x → PostAt w x p fun i => base ≤ i ∧ v.ownBlock ≠ some i) (hx : PostAt w x p fun i => base ≤ i ∧ v.ownBlock ≠ some i)
    (ho : w'.ownsRow base 52 2 v' (L.length + 1) (R.flatMap docCells ++ docCells p)) (hg : w.grownBy w' v.ownBlock) (hloc : v'.ownBlock = v.ownBlock ∨ ∃ g, v'.ownBlock = some g ∧ w.heap.size ≤ g) : PostsO w' base v' (L ++ [x]) := by
  have keep : ∀ {y q}, PostAt w y q (fun i => base ≤ i ∧ v.ownBlock ≠ some i) → PostAt w' y q fun i => base ≤ i ∧ v'.ownBlock ≠ some i := fun h => h.mono (fun i hi hf => ⟨hg.block i hi (fun e => hf.2 e.symm), hf.1, by
    rcases hloc with e | ⟨g, e, hge⟩
    · rw [e]; exact hf.2
    · rw [e]
      intro e2
      have : g = i := Option.some.inj e2
      omega⟩) hg.size
  refine ⟨R ++ [p], by simp [h0], by simpa using ho, fun i q y e1 e2 => ?_⟩
  rcases Nat.lt_or_ge i L.length with hi | hi
  · rw [List.getElem?_append_left (by omega)] at e1 e2
    exact keep (h2 i q y e1 e2)
  · have hlt := (List.getElem?_eq_some_iff.1 e2).1
    simp at hlt
    obtain rfl : i = L.length := by omega
    rw [List.getElem?_append_right (by omega)] at e1 e2
    simp [h0] at e1 e2
    subst e1 e2
    exact keep hx
end Go.Proofs.Ytkligdaademakaa
namespace Go.Proofs.Ytkligdaademakaa
open Go.RowKit Go.Maps Go.WideMaps

theorem append_srcN {P : Program} (w : World) (base : Nat) (t ty e : TypeId) (i : TypeInfo) (z : Value) (size bytes : Nat) (ht : P.underlying t = some (.slice e)) (hi : P.info? e = some i) (hz : i.zero = some z)
    (hsize : i.size = size) (hby : i.bytes = bytes) (hzs : z.cells.size = size) (hsz : 0 < size) (v : Value) (n : Nat) (xs : List Value) (hown : w.ownsRow base e size v n xs)
    (A : Option Addr) (m c : Nat) (news : List Value) (hl : news.length = m * size) (hc : ∀ ad, A = some ad → ∀ j u, news[j]? = some u → w.cell? (ad.add j) = some u) (hn : A = none → m = 0) (h1 : ∀ u ∈ news, u.oneCell' = true)
    (h63 : n + m ≤ maxLen) (hbytes : (n + m) * bytes ≤ 140737488355328) (hbase : base ≤ w.heap.size) :
    ∃ v' w', (Builtin.append_ #[t, t] ty #[v, .slice A m c]).run P w = .ok v' w' ∧ w'.ownsRow base e size v' (n + m) (xs ++ news) ∧ w.grownBy w' v.ownBlock ∧
      (v'.ownBlock = v.ownBlock ∨ v'.ownBlock = some w.heap.size) := by
  cases A with
  | none =>
    have hm := hn rfl
    subst hm
    have hn : news = [] := List.eq_nil_of_length_eq_zero (by rw [hl, Nat.zero_mul])
    subst hn
    refine ⟨v, w, ?_, by simpa using hown, World.grownBy.refl w _, .inl rfl⟩
    rcases hown.2 with ⟨rfl, rfl⟩ | ⟨g, cap, cur, rfl, _, _, hnc, _⟩
    · simp [Builtin.append_, run_underlying ht, sizeOf, typeInfo, hi, Builtin.lenOf, Builtin.firstCells]
    · simp [Builtin.append_, run_underlying ht, sizeOf, typeInfo, hi, Builtin.lenOf, Builtin.firstCells, hnc, storeCells]
  | some ad =>
    obtain ⟨v', w', hrun, h2, h3, _, h5⟩ := run_append_own_at (P := P) w base t ty e i z size bytes ht hi hz hsize hby hzs hsz v n xs hown ad m c news hl (hc ad rfl) h1 h63 hbytes hbase
    exact ⟨v', w', hrun, h2, h3, h5⟩
theorem wpList_append_srcN {P : Program} (w : World) {ops : Array Oper} {rest : List Oper} {o : Oper} {a : Act} {Q : Exit → Act → World → Prop} (hgd : o.guard = none) (s x : Operand) (t : TypeId)
    (ho : o.op = .call { callee := .builtin .append, args := #[s, x], argTypes := #[t, t] })
    (base : Nat) (e : TypeId) (i : TypeInfo) (z : Value) (size bytes : Nat) (ht : P.underlying t = some (.slice e)) (hi : P.info? e = some i) (hz : i.zero = some z)
    (hsize : i.size = size) (hby : i.bytes = bytes) (hzs : z.cells.size = size) (hsz : 0 < size)
    (v : Value) (n : Nat) (xs : List Value) (hs : a.eval s = v) (hown : w.ownsRow base e size v n xs)
    (A : Option Addr) (m c : Nat) (news : List Value) (hx : a.eval x = .slice A m c) (hl : news.length = m * size) (hc : ∀ ad, A = some ad → ∀ j u, news[j]? = some u → w.cell? (ad.add j) = some u) (hn : A = none → m = 0) (h1 : ∀ u ∈ news, u.oneCell' = true)
    (h63 : n + m ≤ maxLen) (hbytes : (n + m) * bytes ≤ 140737488355328) (hbase : base ≤ w.heap.size)
    (h : ∀ v' w', w'.ownsRow base e size v' (n + m) (xs ++ news) → w.grownBy w' v.ownBlock → (v'.ownBlock = v.ownBlock ∨ v'.ownBlock = some w.heap.size) → wpList P ops Q rest (a.put o.dst v') w') : wpList P ops Q (o :: rest) a w := by
  refine wpList_plain hgd fun K hK => ?_
  obtain ⟨v', w', hrun, h2, h3, h4⟩ := append_srcN (P := P) w base t o.type e i z size bytes ht hi hz hsize hby hzs hsz v n xs hown A m c news hl hc hn h1 h63 hbytes hbase
  unfold Oper.wp execOp
  simp only [ho, resolve, invoke, builtin, Sem.run_bind, Sem.run_pure, Result.andThen_ok, List.map_toArray, List.map_cons, List.map_nil, hs, hx, hrun]
  exact hK _ _ (h v' w' h2 h3 h4)
/-- A row of one's own, as a source. -/
theorem own_cells {w : World} {base size n c : Nat} {e : TypeId} {A : Option Addr} {xs : List Value} (h : w.ownsRow base e size (.slice A n c) n xs) : (∀ ad, A = some ad → ∀ j u, xs[j]? = some u → w.cell? (ad.add j) = some u) ∧ (A = none → n = 0) := by
  constructor
  · intro ad e1 j u hu
    subst e1
    have hz : ad = ⟨ad.block, 0, none⟩ := by
      rcases h.2 with ⟨h1, _⟩ | ⟨g, cap, cur, h1, _⟩
      · cases h1
      · cases h1; rfl
    have := h.cells (g := ad.block) rfl j u hu
    rw [hz]
    exact this
  · intro e1
    rcases h.2 with ⟨_, h0⟩ | ⟨g, cap, cur, h1, _⟩
    · exact h0
    · rw [e1] at h1; cases h1
theorem docs_one {w : World} {S : List (Int × Value)} {M : List (Int × List (Int × Int))} {far : Nat → Prop} (hl : S.length = M.length) (h2 : ∀ (i : Nat) (p : Int × Value) (x : Int × List (Int × Int)), S[i]? = some p → M[i]? = some x → PostAt w x p far) : ∀ u ∈ S.flatMap docCells, u.oneCell' = true := by
  intro u hu
  obtain ⟨p, hp, hup⟩ := List.mem_flatMap.1 hu
  obtain ⟨i, hi⟩ := List.getElem?_of_mem hp
  have hlt := (List.getElem?_eq_some_iff.1 hi).1
  obtain ⟨_, _, A, c, e, _⟩ := h2 i p _ hi (List.getElem?_eq_getElem (by omega : i < M.length))
  obtain ⟨d, sv⟩ := p
  simp only at e
  subst e
  exact doc_one _ _ _ _ u hup
theorem PostsO.le {w : World} {base base' : Nat} {v : Value} {L : List (Int × List (Int × Int))} (h : PostsO w base v L) (hb : base' ≤ base) : PostsO w base' v L := by
  obtain ⟨R, h0, h1, h2⟩ := h
  exact ⟨R, h0, rowBase_le h1 hb, fun i p x e1 e2 => (h2 i p x e1 e2).mono (fun i _ hf => ⟨rfl, Nat.le_trans hb hf.1, hf.2⟩) (Nat.le_refl _)⟩
theorem PostsO.cat {w w' : World} {base base2 : Nat} {v v' v2 : Value} {L M : List (Int × List (Int × Int))} {R S : List (Int × Value)} (hb : base ≤ base2) (hvb : ∀ g, v.ownBlock = some g → g < base2) (h0 : R.length = L.length) (k0 : S.length = M.length)
    (h2 : ∀ (i : Nat) (p : Int × Value) (x : Int × List (Int × Int)), R[i]? = some p → L[i]? = some x → PostAt w x p fun i => base ≤ i ∧ v.ownBlock ≠ some i)
    (k2 : ∀ (i : Nat) (p : Int × Value) (x : Int × List (Int × Int)), S[i]? = some p → M[i]? = some x → PostAt w x p fun i => base2 ≤ i ∧ v2.ownBlock ≠ some i)
    (ho : w'.ownsRow base 52 2 v' (L.length + M.length) (R.flatMap docCells ++ S.flatMap docCells)) (hg : w.grownBy w' v.ownBlock) (hloc : v'.ownBlock = v.ownBlock ∨ v'.ownBlock = some w.heap.size) : PostsO w' base v' (L ++ M) := by
  have keep : ∀ {y q}, PostAt w y q (fun i => base ≤ i ∧ v.ownBlock ≠ some i) → PostAt w' y q fun i => base ≤ i ∧ v'.ownBlock ≠ some i := fun h => h.mono (fun i hi hf => ⟨hg.block i hi (fun e => hf.2 e.symm), hf.1, by
    rcases hloc with e | e
    · rw [e]; exact hf.2
    · rw [e]
      intro e2
      have : w.heap.size = i := Option.some.inj e2
      omega⟩) hg.size
  refine ⟨R ++ S, by simp [h0, k0], by simpa using ho, fun i q y e1 e2 => ?_⟩
  rcases Nat.lt_or_ge i L.length with hi | hi
  · rw [List.getElem?_append_left (by omega)] at e1 e2
    exact keep (h2 i q y e1 e2)
  · rw [List.getElem?_append_right (by omega)] at e1 e2
    rw [h0] at e1
    exact keep ((k2 _ q y e1 e2).mono (fun j _ hf => ⟨rfl, by omega, fun e => by have := hvb j e; omega⟩) (Nat.le_refl _))
end Go.Proofs.Ytkligdaademakaa
namespace Go.Proofs.Ytkligdaademakaa
open Go.RowKit Go.Maps Go.WideMaps

set_option maxHeartbeats 2000000 in
set_option maxRecDepth 100000 in
theorem clone_any (w : World) (A : Option Addr) (n c : Nat) (l : Nm) (hl : BytesIn w A n l) (hn : n ≤ 140737488355328) :
    Calls Try.prog 50 #[.slice A n c] w fun e w' => ∃ v, e = .returned v ∧ w'.ownsRow w.heap.size 5 1 v n (l.map byteV) ∧ Below w.heap.size w w' := by
  obtain ⟨i0, hi, hz0, hz1, hz2⟩ := info_parts byteInfo
  have q22 : ∀ (w : World) (a : Option Addr) (n c n' c' : Nat), (binOp .eql 46 (.slice a n c) (.slice none n' c')).run Try.prog w = .ok (.bool a.isNone) w := fun w a n c n' c' => Lib.run_eql_slice_nil w _ _ a n c n' c' Try.underlying46
  cases A with
  | none =>
    have h0 := hl.2.1.nil rfl
    have hx : l = [] := List.eq_nil_of_length_eq_zero (by have := hl.2.1.len; simp at this; omega)
    subst h0 hx
    clear hl
    go_enter Try.func50, Try.ntmps50
    go_wp2
    go_ret
    exact ⟨_, rfl, ⟨rfl, .inl ⟨rfl, rfl⟩⟩, Below.refl _ _⟩
  | some ad =>
    have HL := Lib.hid (BytesIn.below hl ((Below.refl _ w).alloc (Nat.le_refl _) (.cells #[] 5)))
    clear hl
    go_enter Try.func50, Try.ntmps50
    go_wp2_with (at_builtin; refine wpList_append_src _ rfl (.tmp 5) (.tmp 6) 46 rfl w.heap.size 5 i0 (.int .u8 0) 1 Try.underlying46 hi hz0 hz1 hz2 rfl _ 0 [] rfl (World.ownsRow_made w #[] 0 (Nat.le_refl _) (Nat.zero_le _) rfl) (some ad) n c (l.map byteV) rfl HL.out.2.1 (u8_one l) (by unfold maxLen; omega) (by omega) (by simp) ?_; intro v w2 hown hgrow hloc; rw [Nat.zero_add, List.nil_append] at hown; have HO := Lib.hid hown; have HB : Hid (Below w.heap.size w w2) := Lib.hid ((((Below.refl _ w).alloc (Nat.le_refl _) (.cells #[] 5)).grown hgrow (by simp) (fun k e => by cases e; exact Nat.le_refl _))); clear hown hgrow hloc)
    go_ret
    exact ⟨_, rfl, HO.out, HB.out⟩
end Go.Proofs.Ytkligdaademakaa
