/- Integers of 64 bits in slices that came in, of whatever name. -/
import Derived.Test.YtdmhaaplgkilpaaKCore
namespace Go.Proofs.Ytdmhaaplgkilpaa
open Go.RowKit Go.Maps Go.WideMaps Go.ChangeShapes Go.WideShapes Go.ChangeAt Go.Deep

def i64V (n : Int) : Value := .int .i64 n
theorem i64V_one (l : List Int) : ∀ u ∈ l.map i64V, u.oneCell' = true := by
  intro u hu
  obtain ⟨x, _, rfl⟩ := List.mem_map.1 hu
  rfl
/-- A slice of integers that came in. -/
def IntsIn (w : World) (A : Option Addr) (n : Nat) (l : List Int) : Prop := n ≤ maxLen ∧ Src w A n (l.map i64V) ∧ (∀ x ∈ l, -9223372036854775808 ≤ x ∧ x ≤ 9223372036854775807) ∧ ∀ ad, A = some ad → 0 < n → ad.block < w.heap.size
theorem IntsIn.len {w : World} {A : Option Addr} {n : Nat} {l : List Int} (h : IntsIn w A n l) : l.length = n := by have := h.2.1.len; simpa using this
theorem IntsIn.below {w w' : World} {A : Option Addr} {n : Nat} {l : List Int} (h : IntsIn w A n l) (hb : Below w.heap.size w w') : IntsIn w' A n l :=
  ⟨h.1, h.2.1.keep fun ad e hn => hb.block _ (h.2.2.2 ad e hn), h.2.2.1, fun ad e hn => Nat.lt_of_lt_of_le (h.2.2.2 ad e hn) hb.size⟩
theorem IntsIn.drew {w : World} {A : Option Addr} {n : Nat} {l : List Int} (h : IntsIn w A n l) : IntsIn w.drew A n l := ⟨h.1, ⟨h.2.1.1, h.2.1.2, h.2.1.3⟩, h.2.2⟩
theorem IntsIn.own {w : World} {base : Nat} {e : TypeId} {A : Option Addr} {n c : Nat} {l : List Int} (h : w.ownsRow base e 1 (.slice A n c) n (l.map i64V)) (h63 : n ≤ maxLen) (hl : ∀ x ∈ l, -9223372036854775808 ≤ x ∧ x ≤ 9223372036854775807) : IntsIn w A n l :=
  ⟨h63, src_of_own h, hl, fun ad e _ => (h.lt ad.block (by rw [e]; rfl)).2⟩
/-- Where an element lies, and its bounds. -/
theorem IntsIn.at {w : World} {A : Option Addr} {n : Nat} {l : List Int} (h : IntsIn w A n l) (k : Nat) (hk : k < n) : ∃ ad x, A = some ad ∧ l[k]? = some x ∧ w.cell? (ad.add k) = some (.int .i64 x) ∧ -9223372036854775808 ≤ x ∧ x ≤ 9223372036854775807 := by
  have hl := h.len
  cases hA : A with
  | none => have := h.2.1.nil hA; omega
  | some ad =>
    subst hA
    have hx : l[k]? = some (l[k]'(by omega)) := List.getElem?_eq_getElem _
    have hb := h.2.2.1 _ (List.getElem_mem (h := (by omega : k < l.length)))
    exact ⟨ad, _, rfl, hx, h.2.1.cells ad rfl k (i64V (l[k]'(by omega))) (by rw [List.getElem?_map, hx]; rfl), hb.1, hb.2⟩
section
variable {H : Type} {enc : TypeId × Value → H} {w : World}
set_option maxRecDepth 100000 in
theorem ints_in {t e : TypeId} (ht : Try.prog.underlying t = some (.slice e)) (he : Try.prog.underlying e = some (.int .i64)) (hc : Try.prog.cellsOf e = 1) {A : Option Addr} {n c : Nat} {x : DataW H × List MemPlace} {fuel : Nat} {base : Nat} {spare : Nat → Bool} {held : Bool} (h : DataW.trod enc Try.prog w base spare held fuel t [.slice A n c] = some x) : ∃ l, IntsIn w A n l := by
  rcases open_ints ht he hc h with ⟨hcs, _⟩ | ⟨a, l, cp, zs, hcs, _, hl, hm, hz, _, hcell, hwz⟩
  · simp only [List.cons.injEq, Value.slice.injEq, and_true] at hcs
    obtain ⟨rfl, rfl, rfl⟩ := hcs
    exact ⟨[], by unfold maxLen; omega, ⟨rfl, (fun ad e => by cases e), fun _ => rfl⟩, by simp, fun ad e => by cases e⟩
  · simp only [List.cons.injEq, Value.slice.injEq, and_true] at hcs
    obtain ⟨rfl, rfl, rfl⟩ := hcs
    have hzl : n ≤ zs.length := by rw [hz]; split <;> omega
    refine ⟨zs.take n, by omega, ⟨by simp; omega, fun ad e j u hu => ?_, (fun e => by cases e)⟩, fun y hy => ?_, fun ad e hn => ?_⟩
    · injection e with e
      subst e
      rw [List.getElem?_map, List.getElem?_take] at hu
      split at hu
      · have hjz : j < zs.length := by omega
        rw [List.getElem?_eq_getElem hjz] at hu
        simp only [Option.map_some, Option.some.injEq] at hu
        rw [hcell j hjz, ← hu]
        simp [i64V, List.getElem?_eq_getElem hjz]
      · cases hu
    · have := hwz y (List.mem_of_mem_take hy)
      simp [Lit.wf, IntKind.min, IntKind.max, IntKind.signed, IntKind.bits] at this
      omega
    · injection e with e
      subst e
      have h0 := hcell 0 (by omega)
      have h1 : a.add 0 = a := by simp [Addr.add]
      rw [h1] at h0
      exact World.block_lt_of_cell? w a h0
end
/-- One integer in a new block, as a source. -/
theorem one_int_src (w : World) (e : TypeId) (x : Int) : Src (w.alloc (.cells #[.int .i64 x] e)) (some ⟨w.heap.size, 0, none⟩) 1 ([x].map i64V) := by
  refine ⟨rfl, fun ad e' j u hu => ?_, fun e' => by cases e'⟩
  cases e'
  have hj : j = 0 := by
    have := (List.getElem?_eq_some_iff.1 hu).1
    simp at this
    exact this
  subst hj
  rw [show (⟨w.heap.size, 0, none⟩ : Addr).add 0 = ⟨w.heap.size, 0, none⟩ by simp [Addr.add], cell_of_row _ w.heap.size 0 _ e (0, 0) (heap_alloc_new w _)]
  simpa [i64V] using hu
end Go.Proofs.Ytdmhaaplgkilpaa
