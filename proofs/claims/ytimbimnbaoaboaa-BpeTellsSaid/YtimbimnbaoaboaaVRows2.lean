/- Rows of tokens and of merges: appended, and read again. -/
import Derived.Test.YtimbimnbaoaboaaVRows
import Derived.Test.YtimbimnbaoaboaaVBMath3
import Derived.Test.YtimbimnbaoaboaaKSized
namespace Go.Proofs.Ytimbimnbaoaboaa
open Go.RowKit Go.Maps Go.WideMaps
set_option linter.unusedSimpArgs false

/-- Rows that can be read, and the values that lie there. -/
structure RowVals (w : World) (A : Option Addr) (n : Nat) (L : List Nm) (svs : List Value) : Prop where
  src : SrcN w A n 1 svs
  len : L.length = n
  vals : ∀ (i : Nat) (sv : Value) (x : Nm), svs[i]? = some sv → L[i]? = some x → Holds1 w sv x
  one : ∀ u ∈ svs, u.oneCell' = true
theorem rows_vals {w : World} {A : Option Addr} {n : Nat} {L : List Nm} (h : RowsSee w A n L) : ∃ svs, RowVals w A n L svs := by
  have hw : ∀ k, k ≤ n → ∃ svs : List Value, svs.length = k ∧ ∀ (i : Nat) (sv : Value), svs[i]? = some sv → ∃ x C c ad, L[i]? = some x ∧ sv = .slice C x.length c ∧ A = some ad ∧ w.cell? (ad.add i) = some sv ∧ x.length ≤ c ∧ BytesIn w C x.length x := by
    intro k
    induction k with
    | zero => intro _; exact ⟨[], rfl, fun i sv hi => by simp at hi⟩
    | succ k ih =>
      intro hk
      obtain ⟨svs, h1, h2⟩ := ih (by omega)
      have hx : L[k]? = some (L[k]'(by rw [h.len]; omega)) := List.getElem?_eq_getElem _
      obtain ⟨ad, C, c, e1, e2, e3, e4⟩ := h.at_ k _ hx
      refine ⟨svs ++ [.slice C (L[k]'(by rw [h.len]; omega)).length c], by simp [h1], fun i sv hi => ?_⟩
      rcases Nat.lt_or_ge i k with hik | hik
      · rw [List.getElem?_append_left (by omega)] at hi
        exact h2 i sv hi
      · have hl := (List.getElem?_eq_some_iff.1 hi).1
        simp [h1] at hl
        obtain rfl : i = k := by omega
        rw [List.getElem?_append_right (by omega), h1, Nat.sub_self] at hi
        simp at hi
        subst hi
        exact ⟨_, C, c, ad, hx, rfl, e1, e2, e3, e4⟩
  obtain ⟨svs, h1, h2⟩ := hw n (Nat.le_refl _)
  refine ⟨svs, ⟨by omega, fun ad e j u hu => ?_, fun e => ?_⟩, h.len, fun i sv x hi hx => ?_, fun u hu => ?_⟩
  · obtain ⟨x, C, c, ad', _, _, e1, e2, _⟩ := h2 j u hu
    rw [e] at e1
    cases e1
    exact e2
  · rcases Nat.eq_zero_or_pos n with h0 | h0
    · exact h0
    · obtain ⟨x, C, c, ad', _, _, e1, _⟩ := h2 0 _ (List.getElem?_eq_getElem (by omega))
      rw [e] at e1
      cases e1
  · obtain ⟨x', C, c, ad', e0, e1, _, _, e3, e4⟩ := h2 i sv hi
    rw [hx] at e0
    cases e0
    exact ⟨C, c, e1, e3, e4⟩
  · obtain ⟨i, hi⟩ := List.getElem?_of_mem hu
    obtain ⟨x', C, c, ad', _, e1, _⟩ := h2 i u hi
    rw [e1]; rfl
theorem SrcN.below {w w' : World} {A : Option Addr} {m s : Nat} {xs : List Value} (h : SrcN w A m s xs) (hb : Below w.heap.size w w') : SrcN w' A m s xs :=
  ⟨h.len, fun ad e j u hu => below_cells hb (h.cells ad e j u hu), h.nil⟩
theorem RowsSee.from_ {w : World} {A : Option Addr} {n c : Nat} {L : List Nm} (h : RowsSee w A n L) (hc : n ≤ c) (p : Nat) (hp : p ≤ n) : RowsSee w (cutAddr A p c) (n - p) (L.drop p) where
  len := by rw [List.length_drop, h.len]
  fit := Nat.le_trans (Nat.sub_le _ _) h.fit
  at_ := fun i x hx => by
    rw [List.getElem?_drop] at hx
    have hl := (List.getElem?_eq_some_iff.1 hx).1
    rw [h.len] at hl
    obtain ⟨ad, C, c', e1, e2, e3, e4⟩ := h.at_ (p + i) x hx
    have hcp : ¬ c = p := by omega
    refine ⟨ad.add p, C, c', by unfold cutAddr; rw [if_neg hcp, e1]; rfl, ?_, e3, e4⟩
    have : (ad.add p).add i = ad.add (p + i) := Go.Deep.add_add ad p i
    rw [this]
    exact e2
set_option maxRecDepth 100000 in
theorem rows_to8 (w : World) (A : Option Addr) (n c p : Nat) (h : p ≤ c) : (Instr.slice 26 (.slice A n c) none (some (.int .u8 p)) none).run Try.prog w = .ok (.slice A p c) w := by
  obtain ⟨i0, hi, hz0, hz1, hz2⟩ := info_parts rowInfo
  rw [run_slice_h (P := Try.prog) (w := w) 26 A n c Try.underlying26 .u8 p (by omega) (by omega)]
  have he : Try.prog.elem 26 = 23 := by kernel_rfl
  rw [he]
  have hs : (sizeOf 23).run Try.prog w = Result.ok i0.size w := by
    rw [run_sizeOf w hi]
    unfold Program.cellsOf
    rw [hi]
    rfl
  rw [hs]
  simp [Result.andThen, sliced, Addr.add]
set_option maxRecDepth 100000 in
theorem rows_from (w : World) (A : Option Addr) (n c p : Nat) (hp : p ≤ n) : (Instr.slice 26 (.slice A n c) (some (.int .i64 p)) none none).run Try.prog w = .ok (.slice (cutAddr A p c) (n - p) (c - p)) w := by
  obtain ⟨i0, hi, hz0, hz1, hz2⟩ := info_parts rowInfo
  have hs : (sizeOf (Try.prog.elem 26)).run Try.prog w = .ok 1 w := by
    rw [show Try.prog.elem 26 = 23 by kernel_rfl, run_sizeOf w hi]
    unfold Program.cellsOf
    rw [hi]
    simp [hz1]
  rw [run_slice_l (P := Try.prog) (w := w) 26 A n c Try.underlying26 .i64 p (by omega) (by omega), hs]
  simp [Result.andThen, sliced, cutAddr]
/-- A row of slices of one's own, to be read. -/
theorem ownRows_see {w : World} {base : Nat} {A : Option Addr} {n c : Nat} {svs : List Value} {L : List Nm} (h : w.ownsRow base 23 1 (.slice A n c) n svs) (hl : L.length = n) (h63 : n ≤ maxLen) (hv : ∀ (i : Nat) (sv : Value) (x : Nm), svs[i]? = some sv → L[i]? = some x → Holds1 w sv x) : RowsSee w A n L ∧ n ≤ c := by
  obtain ⟨A', c', e1, e2⟩ := own_cap h
  injection e1 with ea en ec
  subst ea ec
  refine ⟨⟨hl, h63, fun i x hx => ?_⟩, e2⟩
  have hsl : svs.length = n := by have := h.1; simpa using this
  have hi := (List.getElem?_eq_some_iff.1 hx).1
  have hs : svs[i]? = some (svs[i]'(by omega)) := List.getElem?_eq_getElem _
  obtain ⟨C, cc, h3, h4, h5⟩ := hv i _ x hs hx
  have hsrc := src_of_own h
  cases A with
  | none => have := hsrc.nil rfl; omega
  | some ad =>
    have := hsrc.cells ad rfl i _ hs
    rw [h3] at this
    exact ⟨ad, C, cc, rfl, this, h4, h5⟩
theorem mgCells_len (L : List Mg) : (L.flatMap mgCells).length = L.length * 3 := by
  induction L with
  | nil => rfl
  | cons a r ih => rw [List.flatMap_cons, List.length_append, ih, List.length_cons]; simp [mgCells]; omega
theorem mgCells_one (L : List Mg) : ∀ u ∈ L.flatMap mgCells, u.oneCell' = true := by
  intro u hu
  obtain ⟨p, _, hp⟩ := List.mem_flatMap.1 hu
  simp only [mgCells, List.mem_cons, List.not_mem_nil, or_false] at hp
  rcases hp with rfl | rfl | rfl <;> rfl
theorem MgSee.src {w : World} {B : Option Addr} {n : Nat} {M : List Mg} (h : MgSee w B n M) : SrcN w B n 3 (M.flatMap mgCells) where
  len := by rw [mgCells_len, h.len]
  cells := fun ad e q u hu => by
    obtain ⟨m, hm, hmu⟩ := flat_inv (s := 3) (by omega) (fun _ => rfl) M q u hu
    obtain ⟨ad', e1, c0, c1, c2⟩ := h.at_ (q / 3) m hm
    rw [e] at e1
    cases e1
    have e2 : q / 3 * 3 + q % 3 = q := by omega
    have h2 : q % 3 < 3 := Nat.mod_lt _ (by omega)
    have h3 : q % 3 = 0 ∨ q % 3 = 1 ∨ q % 3 = 2 := by omega
    rw [← e2]
    rcases h3 with h3 | h3 | h3 <;> rw [h3] at hmu ⊢ <;> simp [mgCells] at hmu <;> rw [← hmu]
    · exact c0
    · rw [add_pos' _ _ _ (by omega)]; exact c1
    · rw [add_pos' _ _ _ (by omega)]; exact c2
  nil := fun e => by
    rcases Nat.eq_zero_or_pos n with h0 | h0
    · exact h0
    · obtain ⟨ad', e1, _⟩ := h.at_ 0 _ (List.getElem?_eq_getElem (by rw [h.len]; exact h0))
      rw [e] at e1
      cases e1
theorem MgSee.own {w : World} {base : Nat} {B : Option Addr} {n c : Nat} {M : List Mg} (h : w.ownsRow base 46 3 (.slice B n c) n (M.flatMap mgCells)) (hl : M.length = n) (h63 : n ≤ maxLen) (hf : ∀ m ∈ M, mgFits m) : MgSee w B n M ∧ n ≤ c := by
  have hc : n ≤ c := by
    rcases h.2 with ⟨h1, h0⟩ | ⟨g, cap, cur, h1, _, _, hc, _⟩
    · omega
    · injection h1 with _ _ h3
      omega
  refine ⟨⟨hl, h63, fun i m hi => ?_, fun m hm => hf m hm⟩, hc⟩
  have hil := (List.getElem?_eq_some_iff.1 hi).1
  cases B with
  | none =>
    rcases h.2 with ⟨h1, h0⟩ | ⟨g, cap, cur, h1, _⟩
    · omega
    · cases h1
  | some ad =>
    have hz : ad = ⟨ad.block, 0, none⟩ := by
      rcases h.2 with ⟨h1, _⟩ | ⟨g, cap, cur, h1, _⟩
      · cases h1
      · cases h1; rfl
    have hcs := fun j u (hj : (mgCells m)[j]? = some u) => h.cells (g := ad.block) rfl (i * 3 + j) u (flat_at (s := 3) (fun _ => rfl) M i j m u hi hj)
    have c0 := hcs 0 _ rfl
    have c1 := hcs 1 _ rfl
    have c2 := hcs 2 _ rfl
    rw [addr_add] at c0 c1 c2
    refine ⟨ad, rfl, ?_, ?_, ?_⟩
    · rw [hz, addr_add]; exact c0
    · rw [hz, addr_add]; exact c1
    · rw [hz, addr_add]; exact c2
end Go.Proofs.Ytimbimnbaoaboaa
