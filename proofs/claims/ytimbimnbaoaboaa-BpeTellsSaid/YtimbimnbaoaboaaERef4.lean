/- The document's Encode: plain. -/
import Derived.Test.YtimbimnbaoaboaaELaws3
namespace Go.Proofs.Ytimbimnbaoaboaa
open Go.RowKit Go.Maps Go.WideMaps
set_option linter.unusedSimpArgs false

def bk (M : List Mg) (l : List Int) (i : Nat) : Nat := match bestUp M l i with | none => M.length | some p => p.1
def ba (M : List Mg) (l : List Int) (i : Nat) : Int := match bestUp M l i with | none => -1 | some p => (p.2 : Int)
theorem bk_le (M : List Mg) (l : List Int) (i : Nat) : bk M l i ≤ M.length := by
  unfold bk
  rcases bestUp_spec M l i with ⟨h, _⟩ | ⟨k, j, h, h2⟩
  · rw [h]; exact Nat.le_refl _
  · rw [h]
    obtain ⟨a, b, _, _, h3⟩ := pairRk_some h2.rk
    exact Nat.le_of_lt (rkOf_lt h3).1
theorem bk_yes {M : List Mg} {l : List Int} {i r : Nat} (h : pairRk M l i = some r) (hr : r < bk M l i) : bk M l (i + 1) = r ∧ ba M l (i + 1) = i := by
  unfold bk at hr
  unfold bk ba
  cases hb : bestUp M l i with
  | none => simp [bestUp, h, hb]
  | some p =>
    obtain ⟨k0, i0⟩ := p
    rw [hb] at hr
    simp at hr
    simp [bestUp, h, hb, hr]
theorem bk_no {M : List Mg} {l : List Int} {i : Nat} (h : ∀ r, pairRk M l i = some r → ¬ r < bk M l i) : bk M l (i + 1) = bk M l i ∧ ba M l (i + 1) = ba M l i := by
  cases hp : pairRk M l i with
  | none => simp [bk, ba, bestUp, hp]
  | some r =>
    have h1 := h r hp
    unfold bk at h1
    unfold bk ba
    cases hb : bestUp M l i with
    | none =>
      rw [hb] at h1
      obtain ⟨a, b, _, _, h3⟩ := pairRk_some hp
      exact absurd (rkOf_lt h3).1 h1
    | some p =>
      obtain ⟨k0, i0⟩ := p
      rw [hb] at h1
      simp at h1
      simp [bestUp, hp, hb]
      constructor
      · rw [if_neg (by omega)]
      · rw [if_neg (by omega)]
theorem rkOf_first {M : List Mg} {a b : Int} {k : Nat} {m : Mg} (hm : M[k]? = some m) (h : m.a = a ∧ m.b = b) (hn : ∀ (j : Nat) (x : Mg), j < k → M[j]? = some x → ¬ (x.a = a ∧ x.b = b)) : rkOf M a b = some k := by
  unfold rkOf
  obtain ⟨hk, e⟩ := List.getElem?_eq_some_iff.1 hm
  rw [List.findIdx?_eq_some_iff_getElem]
  refine ⟨hk, by rw [e]; exact decide_eq_true h, fun j hj => ?_⟩
  simpa using hn j _ hj (List.getElem?_eq_getElem (by omega))
theorem bk_end {M : List Mg} {l : List Int} (h : ba M l (l.length - 1) < 0) : bestOf M l = none := by
  unfold ba at h
  unfold bestOf
  cases hb : bestUp M l (l.length - 1) with
  | none => rfl
  | some p => rw [hb] at h; simp at h; omega
theorem bk_some {M : List Mg} {l : List Int} (h : ¬ ba M l (l.length - 1) < 0) : ∃ i : Nat, ba M l (l.length - 1) = (i : Int) ∧ bestOf M l = some (bk M l (l.length - 1), i) ∧ i + 1 < l.length ∧ bk M l (l.length - 1) < M.length := by
  unfold ba at h ⊢
  unfold bestOf bk
  rcases bestUp_spec M l (l.length - 1) with ⟨hb, _⟩ | ⟨k, j, hb, h2⟩
  · rw [hb] at h
    exact absurd (by decide) h
  · rw [hb]
    obtain ⟨a, b, _, _, h3⟩ := pairRk_some h2.rk
    exact ⟨j, rfl, rfl, pairRk_in h2.rk, (rkOf_lt h3).1⟩
theorem add_addE (ad : Addr) (p j : Nat) : (ad.add p).add j = ad.add (p + j) := by
  unfold Addr.add
  split <;> split <;> (try split) <;> (first | rfl | (simp_all; done) | (simp_all; omega))
theorem srcFrom {w : World} {A : Option Addr} {n c : Nat} {l : List Int} (h : Src w A n (l.map i64V)) (hc : n ≤ c) (p : Nat) (hp : p ≤ n) : Src w (cutAddr A p c) (n - p) ((l.drop p).map i64V) := by
  have hl : l.length = n := by have := h.len; simpa using this
  have hlen : ((l.drop p).map i64V).length = n - p := by simp [hl]
  unfold cutAddr
  by_cases hcp : c = p
  · rw [if_pos hcp]
    have e : (l.drop p) = [] := List.eq_nil_of_length_eq_zero (by simp; omega)
    rw [e]
    exact ⟨by simp; omega, fun ad _ j u hu => by simp at hu, fun _ => by omega⟩
  · rw [if_neg hcp]
    cases A with
    | none =>
      have := h.nil rfl
      have e : (l.drop p) = [] := List.eq_nil_of_length_eq_zero (by simp; omega)
      rw [e]
      exact ⟨by simp; omega, fun ad _ j u hu => by simp at hu, fun _ => by omega⟩
    | some ad =>
      refine ⟨hlen, fun a e j u hu => ?_, fun e => by cases e⟩
      cases e
      rw [add_addE]
      refine h.cells ad rfl (p + j) u ?_
      rw [List.getElem?_map, List.getElem?_drop] at hu
      rw [List.getElem?_map]
      exact hu
set_option maxRecDepth 100000 in
theorem elemSizeI (w : World) : (sizeOf (Try.prog.elem 24)).run Try.prog w = .ok 1 w := by
  obtain ⟨i0, hi, hz0, hz1, hz2⟩ := info_parts intInfo1
  rw [show Try.prog.elem 24 = 3 by kernel_rfl, run_sizeOf w hi]
  unfold Program.cellsOf
  rw [hi]
  simp [hz1]
set_option maxRecDepth 100000 in
theorem slice_fromI (w : World) (A : Option Addr) (n c p : Nat) (hp : p ≤ n) : (Instr.slice 24 (.slice A n c) (some (.int .i64 p)) none none).run Try.prog w = .ok (.slice (cutAddr A p c) (n - p) (c - p)) w := by
  rw [run_slice_l (P := Try.prog) (w := w) 24 A n c Try.underlying24 .i64 p (by omega) (by omega), elemSizeI]
  simp [Result.andThen, sliced, cutAddr]
theorem i64_one (l : List Int) : ∀ u ∈ l.map i64V, u.oneCell' = true := by
  intro u hu
  obtain ⟨x, _, rfl⟩ := List.mem_map.1 hu
  rfl
theorem srcTo {w : World} {A : Option Addr} {n : Nat} {l : List Int} (h : Src w A n (l.map i64V)) (p : Nat) (hp : p ≤ n) : Src w A p ((l.take p).map i64V) := by
  have hl : l.length = n := by have := h.len; simpa using this
  refine ⟨by simp; omega, fun ad e j u hu => ?_, fun e => by have := h.nil e; omega⟩
  rw [List.map_take, List.getElem?_take] at hu
  split at hu
  · exact h.cells ad e j u hu
  · cases hu
theorem slice_fromI2 (w : World) (A : Option Addr) (n c p : Nat) (hp : p + 2 ≤ n) : (Instr.slice 24 (.slice A n c) (some (.int .i64 ((p : Int) + 2))) none none).run Try.prog w = .ok (.slice (cutAddr A (p + 2) c) (n - (p + 2)) (c - (p + 2))) w := by
  have h := slice_fromI w A n c (p + 2) hp
  rw [show ((p + 2 : Nat) : Int) = (p : Int) + 2 by omega] at h
  exact h
def lenOf : Value → Nat | .slice _ n _ => n | _ => 0
/-- What the first loop has when it has looked at k tokens for byte i. -/
def byteAt (s : Nm) (i k : Nat) : List Int := bytesI (s.take i) ++ (match s[i]? with | some x => if x.toNat < k then [(x.toNat : Int)] else [] | none => [])
theorem byteAt_end {s : Nm} {i n : Nat} {x : UInt8} (hx : s[i]? = some x) (hn : 256 ≤ n) : byteAt s i n = bytesI (s.take (i + 1)) := by
  unfold byteAt
  have := x.toNat_lt
  rw [hx, List.take_add_one, hx]
  simp only
  rw [if_pos (by omega)]
  simp [bytesI]
theorem byteAt_zero {s : Nm} {i : Nat} : byteAt s i 0 = bytesI (s.take i) := by
  unfold byteAt
  cases s[i]? with
  | none => simp
  | some x => simp
theorem byteAt_no {s : Nm} {i k : Nat} {x : UInt8} (hx : s[i]? = some x) (h : x.toNat ≠ k) : byteAt s i (k + 1) = byteAt s i k := by
  unfold byteAt
  rw [hx]
  simp only
  by_cases h1 : x.toNat < k
  · rw [if_pos h1, if_pos (by omega)]
  · rw [if_neg h1, if_neg (by omega)]
theorem byteAt_yes {s : Nm} {i k : Nat} {x : UInt8} (hx : s[i]? = some x) (h : x.toNat = k) : byteAt s i (k + 1) = byteAt s i k ++ [(k : Int)] := by
  unfold byteAt
  rw [hx]
  simp only
  rw [if_pos (by omega), if_neg (by omega), List.append_nil, h]
theorem byteAt_len (s : Nm) (i k : Nat) : (byteAt s i k).length ≤ i + 1 := by
  unfold byteAt
  rw [List.length_append, bytesI_len, List.length_take]
  cases s[i]? with
  | none => simp; omega
  | some x =>
    simp only
    split <;> simp <;> omega
end Go.Proofs.Ytimbimnbaoaboaa
