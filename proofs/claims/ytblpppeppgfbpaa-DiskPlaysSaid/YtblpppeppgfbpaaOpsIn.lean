/- Calls that came in: a slice of Op, as a list; how much they are. -/
import Derived.Test.YtblpppeppgfbpaaLawKit
import Derived.Test.YtblpppeppgfbpaaRename2
import Derived.Deep.Slices
import Derived.Deep.Fields
import Derived.ChangeSame
import Derived.Deep.QuietTactic
import Derived.BigQuiet
import Derived.SizedLaws
namespace Go.Proofs.Ytblpppeppgfbpaa
open Go.ChangeShapes Go.WideShapes Go.ChangeAt Go.RowKit Go.Deep

structure OpV where
  what : Int
  a : ByteArray
  B : Option Addr
  bn : Nat
  bc : Nat
  bs : Nm
  n : Int
  acts : Int
  C : Option Addr
  k : Nat
  cc : Nat
  cs : List Int
def OpV.cells (o : OpV) : List Value := [.int .i64 o.what, .string o.a, .slice o.B o.bn o.bc, .int .i64 o.n, .int .i64 o.acts, .slice o.C o.k o.cc]
structure OpIn (w : World) (o : OpV) : Prop where
  a : o.a.size ≤ maxLen
  b : BytesIn w o.B o.bn o.bs
  bc : o.bn ≤ o.bc
  n : o.n ≤ 9223372036854775807
  acts : o.acts ≤ 9223372036854775807
  c : CutsIn w o.C o.k o.cs
  na : o.a.size ≤ 140737488351232
  nb : o.bn ≤ 140737488351232
  nk : o.k * 8 ≤ 140737488351232
/-- A slice of calls that came in. -/
structure OpsIn (w : World) (A : Option Addr) (n : Nat) (l : List OpV) : Prop where
  len : l.length = n
  big : n * 88 ≤ 140737488351232
  op : ∀ o ∈ l, OpIn w o
  nil : A = none → n = 0
  cells : ∀ ad, A = some ad → ∀ (i : Nat) (o : OpV), l[i]? = some o → ∀ (j : Nat) (v : Value), o.cells[j]? = some v → w.cell? (ad.add (i * 6 + j)) = some v
  lt : ∀ ad, A = some ad → 0 < n → ad.block < w.heap.size

theorem add_pos (ad : Addr) (i j : Nat) (h : 0 < j) : ad.add (i + j) = ⟨(ad.add i).block, (ad.add i).off + j, none⟩ := by
  rw [← add_add]
  generalize ad.add i = b
  unfold Addr.add
  rw [if_neg (by omega)]
theorem OpsIn.head {w : World} {ad : Addr} {n : Nat} {l : List OpV} (h : OpsIn w (some ad) n l) {k : Nat} {o : OpV} (ho : l[k]? = some o) : w.cell? (ad.add (k * 6)) = some (.int .i64 o.what) := h.cells ad rfl k o ho 0 _ rfl
theorem OpsIn.field {w : World} {ad : Addr} {n : Nat} {l : List OpV} (h : OpsIn w (some ad) n l) {k : Nat} {o : OpV} (ho : l[k]? = some o) (j : Nat) {v : Value} (hv : o.cells[j + 1]? = some v) : w.cell? ⟨(ad.add (k * 6)).block, (ad.add (k * 6)).off + (j + 1), none⟩ = some v := by
  rw [← add_pos _ _ _ (by omega)]
  exact h.cells ad rfl k o ho _ _ hv
theorem take_drop1 (cs : List Value) (j : Nat) (h : j < cs.length) : (cs.drop j).take 1 = [cs[j]] := by
  rw [List.drop_eq_getElem_cons h]; rfl
theorem take_drop2 (cs : List Value) (j : Nat) (h : j + 1 < cs.length) : (cs.drop j).take 2 = [cs[j], cs[j + 1]] := by
  rw [List.drop_eq_getElem_cons (by omega), List.take_succ_cons, take_drop1 cs (j + 1) h]

section
variable {H : Type} {enc : TypeId × Value → H} {w : World}
theorem ints_shape {A : Value} {x : DataW H × List MemPlace} {fuel : Nat} {base : Nat} {spare : Nat → Bool} {held : Bool} (h : DataW.trod enc Try.prog w base spare held fuel 34 [A] = some x) : ∃ C k cc, A = .slice C k cc := by
  rcases open_ints Try.underlying34 Try.underlying3 (by kernel_rfl) h with ⟨hcs, _⟩ | ⟨a, l, cp, zs, hcs, _⟩
  · simp only [List.cons.injEq, and_true] at hcs
    exact ⟨_, _, _, hcs⟩
  · simp only [List.cons.injEq, and_true] at hcs
    exact ⟨_, _, _, hcs⟩
set_option maxRecDepth 100000 in
theorem op_in {cs : List Value} {x : DataW H × List MemPlace} {fuel : Nat} {base : Nat} {spare : Nat → Bool} {held : Bool} (h : DataW.trod enc Try.prog w base spare held fuel 38 cs = some x) (hs : Sized 38 x.1) :
    ∃ o : OpV, cs = o.cells ∧ OpIn w o := by
  obtain ⟨ys, m, _, hx, hlen, _, hf⟩ := DataW.trod_struct Try.underlying38 h
  have hl6 : cs.length = 6 := by rw [hlen]; kernel_rfl
  have cI : Try.prog.cellsOf 3 = 1 := by kernel_rfl
  have cS : Try.prog.cellsOf 9 = 1 := by kernel_rfl
  have cB : Try.prog.cellsOf 33 = 1 := by kernel_rfl
  have cN : Try.prog.cellsOf 34 = 1 := by kernel_rfl
  have cC : Try.prog.cellsOf 36 = 2 := by kernel_rfl
  have f0 : DataW.trod enc Try.prog w base spare held m 3 ((cs.drop 0).take (Try.prog.cellsOf 3)) = ys[0]? := hf 0 _ rfl
  have f1 : DataW.trod enc Try.prog w base spare held m 9 ((cs.drop 1).take (Try.prog.cellsOf 9)) = ys[1]? := hf 1 _ rfl
  have f2 : DataW.trod enc Try.prog w base spare held m 33 ((cs.drop 2).take (Try.prog.cellsOf 33)) = ys[2]? := hf 2 _ rfl
  have f3 : DataW.trod enc Try.prog w base spare held m 3 ((cs.drop 3).take (Try.prog.cellsOf 3)) = ys[3]? := hf 3 _ rfl
  have f4 : DataW.trod enc Try.prog w base spare held m 36 ((cs.drop 4).take (Try.prog.cellsOf 36)) = ys[4]? := hf 4 _ rfl
  have hy : ys.length = 5 := by assumption
  rw [cI, take_drop1 _ _ (by omega), List.getElem?_eq_getElem (by omega)] at f0 f3
  rw [cS, take_drop1 _ _ (by omega), List.getElem?_eq_getElem (by omega)] at f1
  rw [cB, take_drop1 _ _ (by omega), List.getElem?_eq_getElem (by omega)] at f2
  rw [cC, take_drop2 _ _ (by omega), List.getElem?_eq_getElem (by omega)] at f4
  rw [hx] at hs
  have s1 : Sized 9 (ys[1]).1 := hs.field Try.underlying38 (j := 1) rfl (by rw [List.getElem?_map, List.getElem?_eq_getElem (by omega)]; rfl)
  have s2 : Sized 33 (ys[2]).1 := hs.field Try.underlying38 (j := 2) rfl (by rw [List.getElem?_map, List.getElem?_eq_getElem (by omega)]; rfl)
  have s4 : Sized 36 (ys[4]).1 := hs.field Try.underlying38 (j := 4) rfl (by rw [List.getElem?_map, List.getElem?_eq_getElem (by omega)]; rfl)
  obtain ⟨zs, m', _, hx4, _, hz, hg⟩ := DataW.trod_struct Try.underlying36 f4
  have hz2 : zs.length = 2 := hz
  have g0 : DataW.trod enc Try.prog w base spare held m' 3 (([cs[4], cs[5]].drop 0).take (Try.prog.cellsOf 3)) = zs[0]? := hg 0 _ rfl
  have g1 : DataW.trod enc Try.prog w base spare held m' 34 (([cs[4], cs[5]].drop 1).take (Try.prog.cellsOf 34)) = zs[1]? := hg 1 _ rfl
  rw [cI, List.getElem?_eq_getElem (by omega)] at g0
  rw [cN, List.getElem?_eq_getElem (by omega)] at g1
  simp only [List.drop_zero, List.drop_succ_cons, List.take_succ_cons, List.take_zero] at g0 g1
  obtain ⟨what, e0, _, w0⟩ := DataW.trod_int Try.underlying3 f0
  rw [hx4] at s4
  have s5 : Sized 34 (zs[1]).1 := s4.field Try.underlying36 (j := 1) rfl (by rw [List.getElem?_map, List.getElem?_eq_getElem (by omega)]; rfl)
  obtain ⟨nm, e1, x1, w1⟩ := DataW.trod_string Try.underlying9 f1
  obtain ⟨B, bn, bc, e2, hbc⟩ := bytes_shape f2
  obtain ⟨n, e3, _, w3⟩ := DataW.trod_int Try.underlying3 f3
  obtain ⟨acts, e4, _, w4⟩ := DataW.trod_int Try.underlying3 g0
  obtain ⟨C, k, cc, e5⟩ := ints_shape g1
  rw [e2] at f2
  rw [e5] at g1
  obtain ⟨bs, hbs⟩ := bytes_in f2
  obtain ⟨js, hjs⟩ := cuts_in g1
  simp only [List.cons.injEq, and_true] at e0 e1 e3 e4
  simp [Lit.wf, IntKind.min, IntKind.max, IntKind.signed, IntKind.bits] at w3 w4
  rw [x1] at s1
  have b1 := s1.str
  have b2 := s2.ints Try.underlying33 Try.underlying5 (by kernel_rfl) f2
  have b5 := s5.ints Try.underlying34 Try.underlying3 (by kernel_rfl) g1
  rw [show Try.prog.bytesOf 5 = 1 by kernel_rfl] at b2
  rw [show Try.prog.bytesOf 3 = 8 by kernel_rfl] at b5
  simp at b1
  refine ⟨⟨what, nm, B, bn, bc, bs, n, acts, C, k, cc, js⟩, ?_, ⟨w1, hbs, hbc, by show n ≤ _; omega, by show acts ≤ _; omega, hjs, b1, by show bn ≤ _; omega, b5⟩⟩
  apply List.ext_getElem
  · rw [hl6]; rfl
  · intro j hj _
    have : j < 6 := by omega
    match j, this with
    | 0, _ => exact e0
    | 1, _ => exact e1
    | 2, _ => exact e2
    | 3, _ => exact e3
    | 4, _ => exact e4
    | 5, _ => exact e5
set_option maxRecDepth 100000 in
theorem ops_in {A : Value} {x : DataW H × List MemPlace} {fuel : Nat} {base : Nat} {spare : Nat → Bool} {held : Bool} (h : DataW.trod enc Try.prog w base spare held fuel 23 [A] = some x) (hs : Sized 23 x.1) :
    ∃ (C : Option Addr) (n c : Nat) (l : List OpV), A = .slice C n c ∧ n ≤ c ∧ OpsIn w C n l := by
  rcases open_slice Try.underlying23 h with ⟨hcs, _⟩ | ⟨a, len, cap, m, f, D, Pl, hcs, _, hl, hm, hmm, hx, hi⟩
  · simp only [List.cons.injEq, and_true] at hcs
    exact ⟨none, 0, 0, [], hcs, Nat.le_refl _, rfl, by omega, by simp, fun _ => rfl, (fun ad e => by cases e), fun ad e => by cases e⟩
  · simp only [List.cons.injEq, and_true] at hcs
    have hlm : len ≤ m := by rw [hmm]; split <;> omega
    have cO : Try.prog.cellsOf 38 = 6 := by kernel_rfl
    rw [hx] at hs
    have hlen := hs.len Try.underlying23
    rw [show Try.prog.bytesOf 38 = 88 by kernel_rfl] at hlen
    simp only [List.length_map, List.length_range] at hlen
    have hex : ∀ i, i < len → ∃ o : OpV, OpIn w o ∧ ∀ (j : Nat) (v : Value), o.cells[j]? = some v → w.cell? (a.add (i * 6 + j)) = some v := by
      intro i hlt
      obtain ⟨cs', hc, ht⟩ := hi i (by omega)
      rw [cO] at hc
      obtain ⟨o, rfl, ho⟩ := op_in ht (hs.elem Try.underlying23 (List.mem_map.2 ⟨i, List.mem_range.2 hlt, rfl⟩))
      obtain ⟨_, _, hat⟩ := World.cells?_some hc
      refine ⟨o, ho, fun j v hv => ?_⟩
      have hj : j < 6 := (List.getElem?_eq_some_iff.1 hv).1
      rw [← add_add]
      rw [hat j hj]
      exact hv
    have hw : ∀ k, k ≤ len → ∃ l : List OpV, l.length = k ∧ (∀ o ∈ l, OpIn w o) ∧ ∀ (i : Nat) (o : OpV), l[i]? = some o → ∀ (j : Nat) (v : Value), o.cells[j]? = some v → w.cell? (a.add (i * 6 + j)) = some v := by
      intro k
      induction k with
      | zero => intro _; exact ⟨[], rfl, by simp, by simp⟩
      | succ k ih =>
        intro hk
        obtain ⟨l, h1, h2, h3⟩ := ih (by omega)
        obtain ⟨o, h4, h5⟩ := hex k (by omega)
        refine ⟨l ++ [o], by simp [h1], fun x hx => ?_, fun i y hy j v hv => ?_⟩
        · rcases List.mem_append.1 hx with h | h
          · exact h2 x h
          · rw [List.mem_singleton.1 h]; exact h4
        · rcases Nat.lt_or_ge i k with hik | hik
          · rw [List.getElem?_append_left (by omega)] at hy
            exact h3 i y hy j v hv
          · have hlt := (List.getElem?_eq_some_iff.1 hy).1
            simp [h1] at hlt
            obtain rfl : i = k := by omega
            rw [List.getElem?_append_right (by omega), h1, Nat.sub_self] at hy
            simp at hy
            subst hy
            exact h5 j v hv
    obtain ⟨l, h1, h2, h3⟩ := hw len (Nat.le_refl _)
    refine ⟨some a, len, cap, l, hcs, hl, h1, by omega, h2, (fun e => by cases e), fun ad e => by cases e; exact h3, fun ad e hn => ?_⟩
    cases e
    obtain ⟨o, _, h5⟩ := hex 0 hn
    have := h5 0 _ rfl
    simp [Addr.add] at this
    exact World.block_lt_of_cell? w a this
end
end Go.Proofs.Ytblpppeppgfbpaa
