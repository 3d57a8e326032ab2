/- What came in, with how long it may be. -/
import Derived.Test.YtjnbilcanfhkjaaKRows
namespace Go.Proofs.Ytjnbilcanfhkjaa
open Go.RowKit Go.Maps Go.WideMaps Go.ChangeShapes Go.WideShapes Go.ChangeAt Go.Deep

def BytesSz (w : World) (A : Option Addr) (n : Nat) (l : Nm) : Prop := BytesIn w A n l ∧ n ≤ 140737488351232
def RowsSz (w : World) (A : Option Addr) (n : Nat) (L : List Nm) : Prop := RowsSee w A n L ∧ (∀ x ∈ L, x.length ≤ 140737488351232) ∧ n ≤ 140737488351232
theorem RowsSee.upto {w : World} {A : Option Addr} {n : Nat} {L : List Nm} (h : RowsSee w A n L) (p : Nat) (hp : p ≤ n) : RowsSee w A p (L.take p) :=
  ⟨by rw [List.length_take, h.len]; omega, Nat.le_trans hp h.fit, fun i x hx => by
    rw [List.getElem?_take] at hx
    split at hx
    · exact h.at_ i x hx
    · cases hx⟩
set_option maxRecDepth 100000 in
theorem rows_to (w : World) (A : Option Addr) (n c p : Nat) (h : p ≤ c) : (Instr.slice 22 (.slice A n c) none (some (.int .i64 p)) none).run Try.prog w = .ok (.slice A p c) w := by
  obtain ⟨i0, hi, hz0, hz1, hz2⟩ := info_parts rowInfo
  rw [run_slice_h (P := Try.prog) (w := w) 22 A n c Try.underlying22 .i64 p (by omega) (by omega)]
  have he : Try.prog.elem 22 = 23 := by kernel_rfl
  rw [he]
  have hs : (sizeOf 23).run Try.prog w = Result.ok i0.size w := by
    rw [run_sizeOf w hi]
    unfold Program.cellsOf
    rw [hi]
    rfl
  rw [hs]
  simp [Result.andThen, sliced, Addr.add]

section
variable {H : Type} {enc : TypeId × Value → H} {w : World}
theorem bytesSz {A : Option Addr} {n c : Nat} {x : DataW H × List MemPlace} {fuel : Nat} {base : Nat} {spare : Nat → Bool} {held : Bool} (h : DataW.trod enc Try.prog w base spare held fuel 23 [.slice A n c] = some x) (hs : Sized 23 x.1) : ∃ l, BytesSz w A n l := by
  obtain ⟨l, hl⟩ := bytes_in h
  have h1 := hs.ints Try.underlying23 Try.underlying5 (by kernel_rfl) h
  rw [show Try.prog.bytesOf 5 = 1 by kernel_rfl] at h1
  exact ⟨l, hl, by omega⟩
set_option maxRecDepth 100000 in
/-- A slice of slices of bytes that came in. -/
theorem rowsSz {A : Option Addr} {n c : Nat} {x : DataW H × List MemPlace} {fuel : Nat} {base : Nat} {spare : Nat → Bool} {held : Bool} (h : DataW.trod enc Try.prog w base spare held fuel 22 [.slice A n c] = some x) (hs : Sized 22 x.1) : ∃ L, RowsSz w A n L := by
  rcases open_slice Try.underlying22 h with ⟨hcs, _⟩ | ⟨a, len, cap, m, f, D, Pl, hcs, _, hl, hm, hmm, hx, hi⟩
  · simp only [List.cons.injEq, Value.slice.injEq, and_true] at hcs
    obtain ⟨rfl, rfl, rfl⟩ := hcs
    exact ⟨[], ⟨rfl, by unfold maxLen; omega, by simp⟩, by simp, by omega⟩
  · simp only [List.cons.injEq, Value.slice.injEq, and_true] at hcs
    obtain ⟨rfl, rfl, rfl⟩ := hcs
    have hlm : n ≤ m := by rw [hmm]; split <;> omega
    have cO : Try.prog.cellsOf 23 = 1 := by kernel_rfl
    rw [hx] at hs
    have hlen := hs.len Try.underlying22
    rw [show Try.prog.bytesOf 23 = 24 by kernel_rfl] at hlen
    simp only [List.length_map, List.length_range] at hlen
    have hex : ∀ i, i < n → ∃ (y : Nm) (B : Option Addr) (cb : Nat), w.cell? (a.add i) = some (.slice B y.length cb) ∧ y.length ≤ cb ∧ BytesIn w B y.length y ∧ y.length ≤ 140737488351232 := by
      intro i hlt
      obtain ⟨cs', hc, ht⟩ := hi i (by omega)
      rw [cO] at hc
      obtain ⟨hsz, _, hat⟩ := World.cells?_some hc
      obtain ⟨u, rfl⟩ : ∃ u, cs' = [u] := by
        match cs', hsz with
        | [u], _ => exact ⟨u, rfl⟩
      obtain ⟨B, bn, bc, rfl, hbc⟩ := bytes_shape ht
      obtain ⟨y, hy, hy2⟩ := bytesSz ht (hs.elem Try.underlying22 (List.mem_map.2 ⟨i, List.mem_range.2 hlt, rfl⟩))
      have hyl : y.length = bn := by have := hy.2.1.len; simpa using this
      subst hyl
      refine ⟨y, B, bc, ?_, hbc, hy, hy2⟩
      have := hat 0 (by simp)
      simpa [Addr.add] using this
    have hw : ∀ k, k ≤ n → ∃ L : List Nm, L.length = k ∧ (∀ x ∈ L, x.length ≤ 140737488351232) ∧ ∀ (i : Nat) (y : Nm), L[i]? = some y → ∃ B cb, w.cell? (a.add i) = some (.slice B y.length cb) ∧ y.length ≤ cb ∧ BytesIn w B y.length y := by
      intro k
      induction k with
      | zero => intro _; exact ⟨[], rfl, by simp, by simp⟩
      | succ k ih =>
        intro hk
        obtain ⟨L, h1, h0, h2⟩ := ih (by omega)
        obtain ⟨y, B, cb, h3, h4, h5, h6⟩ := hex k (by omega)
        refine ⟨L ++ [y], by simp [h1], fun z hz => ?_, fun i z hz => ?_⟩
        · rcases List.mem_append.1 hz with h | h
          · exact h0 z h
          · rw [List.mem_singleton.1 h]; exact h6
        · rcases Nat.lt_or_ge i k with hik | hik
          · rw [List.getElem?_append_left (by omega)] at hz
            exact h2 i z hz
          · have hlt := (List.getElem?_eq_some_iff.1 hz).1
            simp [h1] at hlt
            obtain rfl : i = k := by omega
            rw [List.getElem?_append_right (by omega), h1, Nat.sub_self] at hz
            simp at hz
            subst hz
            exact ⟨B, cb, h3, h4, h5⟩
    obtain ⟨L, h1, h0, h2⟩ := hw n (Nat.le_refl _)
    exact ⟨L, ⟨h1, by omega, fun i y hy => by
      obtain ⟨B, cb, h3, h4, h5⟩ := h2 i y hy
      exact ⟨a, B, cb, rfl, h3, h4, h5⟩⟩, h0, by omega⟩
end
end Go.Proofs.Ytjnbilcanfhkjaa
