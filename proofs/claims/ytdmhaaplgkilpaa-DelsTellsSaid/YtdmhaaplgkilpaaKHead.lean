/- Bytes that came in, later; nil; a literal's bytes. -/
import Derived.Test.YtdmhaaplgkilpaaKBytes
import Derived.Lib.SlBytesConst
import Derived.Laws.OwnMore
namespace Go.Proofs.Ytdmhaaplgkilpaa
open Go.RowKit Go.Maps Go.WideMaps

theorem BytesIn.below {w w' : World} {A : Option Addr} {n : Nat} {l : Nm} (h : BytesIn w A n l) (hb : Below w.heap.size w w') : BytesIn w' A n l :=
  ⟨h.1, h.2.1.keep fun ad e hn => hb.block _ (h.2.2 ad e hn), fun ad e hn => Nat.lt_of_lt_of_le (h.2.2 ad e hn) hb.size⟩
theorem BytesIn.nil (w : World) : BytesIn w none 0 [] := ⟨by unfold maxLen; omega, ⟨rfl, (fun ad e => by cases e), fun _ => rfl⟩, fun ad e => by cases e⟩
/-- Whatever block holds just these bytes. -/
theorem BytesIn.ofRow {w : World} {g n : Nat} {l : Nm} {t : TypeId} {fr : Nat × Nat} (h : w.heap[g]? = some (.cells (l.map byteV).toArray t fr)) (hn : l.length = n) (h63 : n ≤ maxLen) : BytesIn w (some ⟨g, 0, none⟩) n l := by
  have hlt : g < w.heap.size := by
    rcases Nat.lt_or_ge g w.heap.size with h1 | h1
    · exact h1
    · rw [Array.getElem?_eq_none h1] at h; cases h
  refine ⟨h63, ⟨by simpa using hn, fun ad e j u hu => ?_, fun e => by cases e⟩, fun ad e _ => ?_⟩
  · cases e
    have e2 : (⟨g, 0, none⟩ : Addr).add j = ⟨g, j, none⟩ := by
      unfold Addr.add
      split
      · rename_i h0; rw [h0]
      · simp
    rw [e2, cell_of_row w g j _ t fr h]
    simpa using hu
  · cases e
    exact hlt
/-- '[]byte("..")' of a constant: what the walk asks. -/
theorem const_bytes (w : World) (C : Array Value) (n c : Nat) :
    (convert 23 23 (.slice (some ⟨w.heap.size, 0, none⟩) n c)).run Try.prog (w.alloc (.cells C 5)) = .ok (.slice (some ⟨w.heap.size, 0, none⟩) n c) (w.alloc (.cells C 5 (C.size, C.size + 1))) :=
  Lib.run_convert_bytes_const w 23 5 C n c Try.underlying23 Try.underlying5
theorem const_in (w : World) (l : Nm) (fr : Nat × Nat) (h63 : l.length ≤ maxLen) : BytesIn (w.alloc (.cells (l.map byteV).toArray 5 fr)) (some ⟨w.heap.size, 0, none⟩) l.length l :=
  BytesIn.ofRow (heap_alloc_new w _) rfl h63
/-- One byte in a new block, as a source. -/
theorem one_src (w : World) (x : UInt8) : Src (w.alloc (.cells #[.int .u8 x.toNat] 5)) (some ⟨w.heap.size, 0, none⟩) 1 ([x].map byteV) :=
  (BytesIn.ofRow (n := 1) (l := [x]) (heap_alloc_new w _) rfl (by unfold maxLen; omega)).2.1
/-- Some bytes in a new block, as a source. -/
theorem new_src (w : World) (l : Nm) (h : l.length ≤ maxLen) : Src (w.alloc (.cells (l.map byteV).toArray 5)) (some ⟨w.heap.size, 0, none⟩) l.length (l.map byteV) := (const_in w l (0, 0) h).2.1
theorem own_alloc {w : World} {base n : Nat} {v : Value} {xs : List Value} (h : w.ownsRow base 5 1 v n xs) (o : Obj) : (w.alloc o).ownsRow base 5 1 v n xs := World.ownsRow.alloc h o
/-- A part of the bytes that came in. -/
theorem BytesIn.part {w : World} {ad : Addr} {n : Nat} {l : Nm} (h : BytesIn w (some ad) n l) (p q : Nat) (hp : p ≤ q) (hq : q ≤ n) : BytesIn w (some (ad.add p)) (q - p) ((l.take q).drop p) := by
  have hl : l.length = n := by have := h.2.1.len; simpa using this
  have hb : (ad.add p).block = ad.block := by unfold Addr.add; split <;> rfl
  refine ⟨by have := h.1; omega, ⟨by simp; omega, fun a e j u hu => ?_, fun e => by cases e⟩, fun a e h0 => ?_⟩
  · cases e
    have e2 : (ad.add p).add j = ad.add (p + j) := by
      unfold Addr.add
      split <;> split <;> (first | rfl | (split <;> simp_all <;> omega) | (simp_all; omega) | skip)
    rw [e2]
    refine h.2.1.cells ad rfl (p + j) u ?_
    rw [List.getElem?_map, List.getElem?_drop, List.getElem?_take] at hu
    split at hu
    · rw [List.getElem?_map]; exact hu
    · cases hu
  · cases e
    rw [hb]
    exact h.2.2 ad rfl (by omega)
/-- All is as it was, and these bytes lie where they lay. -/
structure Still (w : World) (A : Option Addr) (n : Nat) (l : Nm) (w' : World) : Prop where
  below : Below w.heap.size w w'
  bytes : BytesIn w' A n l
theorem Still.then {w a b : World} {A : Option Addr} {n : Nat} {l : Nm} (h : Still w A n l a) (k : Below a.heap.size a b) : Still w A n l b := ⟨below_then h.below k h.below.size, h.bytes.below k⟩
theorem BytesIn.drew {w : World} {A : Option Addr} {n : Nat} {l : Nm} (h : BytesIn w A n l) : BytesIn w.drew A n l := ⟨h.1, ⟨h.2.1.1, h.2.1.2, h.2.1.3⟩, h.2.2⟩
theorem BytesIn.drewN {w : World} {A : Option Addr} {n : Nat} {l : Nm} (h : BytesIn w A n l) (q : Nat) : BytesIn (w.drewN q) A n l := ⟨h.1, ⟨h.2.1.1, h.2.1.2, h.2.1.3⟩, h.2.2⟩
theorem Still.drew {w a : World} {A : Option Addr} {n : Nat} {l : Nm} (h : Still w A n l a) : Still w A n l a.drew := ⟨h.below.drew, h.bytes.drew⟩
/-- Bytes of one's own are bytes as well. -/
theorem BytesIn.own {w : World} {base : Nat} {A : Option Addr} {n c : Nat} {l : Nm} (h : w.ownsRow base 5 1 (.slice A n c) n (l.map byteV)) (h63 : n ≤ maxLen) : BytesIn w A n l :=
  ⟨h63, src_of_own h, fun ad e _ => (h.lt ad.block (by rw [e]; rfl)).2⟩
theorem cell_this {w : World} {ad : Addr} {n K : Nat} {l : Nm} {x : UInt8} (h : BytesIn w (some ad) n l) (hx : l[K]? = some x) : w.cell? (ad.add K) = some (.int .u8 x.toNat) :=
  h.2.1.cells ad rfl K (byteV x) (by rw [List.getElem?_map, hx]; rfl)
theorem cell_next {w : World} {ad : Addr} {n K : Nat} {l : Nm} {x : UInt8} (h : BytesIn w (some ad) n l) (hx : l[K + 1]? = some x) : w.cell? ⟨ad.block, ad.off + (K + 1), none⟩ = some (.int .u8 x.toNat) := by
  have := cell_this h hx
  simpa [Addr.add] using this
theorem own_cell {w : World} {base g n cap K : Nat} {l : Nm} {x : UInt8} (h : w.ownsRow base 5 1 (.slice (some ⟨g, 0, none⟩) n cap) n (l.map byteV)) (hx : l[K]? = some x) : w.cell? ⟨g, K, none⟩ = some (.int .u8 x.toNat) := by
  have hl : K < n * 1 := by
    have h1 := (List.getElem?_eq_some_iff.1 hx).1
    have h2 := h.1
    simp at h2
    omega
  rw [h.cellAt K hl, List.getElem?_map, hx]
  rfl
/-- Where an element lies. -/
theorem BytesIn.at {w : World} {A : Option Addr} {n : Nat} {l : Nm} (h : BytesIn w A n l) (k : Nat) (hk : k < n) : ∃ ad x, A = some ad ∧ l[k]? = some x ∧ w.cell? (ad.add k) = some (.int .u8 x.toNat) := by
  have hl : l.length = n := by have := h.2.1.len; simpa using this
  cases hA : A with
  | none => have := h.2.1.nil hA; omega
  | some ad =>
    subst hA
    have hx : l[k]? = some (l[k]'(by omega)) := List.getElem?_eq_getElem _
    exact ⟨ad, _, rfl, hx, cell_this h hx⟩
theorem BytesIn.sub {w : World} {A : Option Addr} {n c : Nat} {l : Nm} (h : BytesIn w A n l) (hc : n ≤ c) (p q : Nat) (hp : p ≤ q) (hq : q ≤ n) : BytesIn w (cutAddr A p c) (q - p) ((l.take q).drop p) := by
  have hl : l.length = n := by have := h.2.1.len; simpa using this
  unfold cutAddr
  by_cases hcp : c = p
  · rw [if_pos hcp]
    have e : (l.take q).drop p = [] := List.eq_nil_of_length_eq_zero (by simp; omega)
    rw [e, show q - p = 0 by omega]
    exact ⟨Nat.zero_le _, ⟨rfl, fun ad _ j u hu => by simp at hu, fun _ => rfl⟩, fun ad _ h0 => by omega⟩
  · rw [if_neg hcp]
    cases A with
    | none =>
      have := h.2.1.nil rfl
      have e : (l.take q).drop p = [] := List.eq_nil_of_length_eq_zero (by simp; omega)
      rw [e, show q - p = 0 by omega]
      exact ⟨Nat.zero_le _, ⟨rfl, fun ad _ j u hu => by simp at hu, fun _ => rfl⟩, fun ad _ h0 => by omega⟩
    | some ad => exact h.part p q hp hq
theorem BytesIn.upto {w : World} {A : Option Addr} {n : Nat} {l : Nm} (h : BytesIn w A n l) (q : Nat) (hq : q ≤ n) : BytesIn w A q (l.take q) := by
  have hl : l.length = n := by have := h.2.1.len; simpa using this
  refine ⟨Nat.le_trans hq h.1, ⟨by simp; omega, fun ad e j u hu => ?_, fun e => by have := h.2.1.nil e; omega⟩, fun ad e h0 => h.2.2 ad e (by omega)⟩
  refine h.2.1.cells ad e j u ?_
  rw [List.getElem?_map, List.getElem?_take] at hu
  split at hu
  · rw [List.getElem?_map]; exact hu
  · cases hu
set_option maxRecDepth 100000 in
theorem elemSize (w : World) : (sizeOf (Try.prog.elem 23)).run Try.prog w = .ok 1 w := by
  obtain ⟨i0, hi, hz0, hz1, hz2⟩ := info_parts byteInfo
  rw [show Try.prog.elem 23 = 5 by kernel_rfl, run_sizeOf w hi]
  unfold Program.cellsOf
  rw [hi]
  simp [hz1]
set_option maxRecDepth 100000 in
theorem slice_from (w : World) (A : Option Addr) (n c p : Nat) (hp : p ≤ n) : (Instr.slice 23 (.slice A n c) (some (.int .i64 p)) none none).run Try.prog w = .ok (.slice (cutAddr A p c) (n - p) (c - p)) w := by
  rw [run_slice_l (P := Try.prog) (w := w) 23 A n c Try.underlying23 .i64 p (by omega) (by omega), elemSize]
  simp [Result.andThen, sliced, cutAddr]
set_option maxRecDepth 100000 in
theorem slice_both (w : World) (A : Option Addr) (n c p q : Nat) (hp : p ≤ q) (hq : q ≤ c) : (Instr.slice 23 (.slice A n c) (some (.int .i64 p)) (some (.int .i64 q)) none).run Try.prog w = .ok (.slice (cutAddr A p c) (q - p) (c - p)) w := by
  rw [run_slice_lh (P := Try.prog) (w := w) 23 A n c Try.underlying23 .i64 .i64 p q (by omega) (by omega) (by omega), elemSize]
  simp [Result.andThen, sliced, cutAddr]
end Go.Proofs.Ytdmhaaplgkilpaa
