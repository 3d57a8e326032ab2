/- What a law calls: a trie's answers as rows of integers, has, great. -/
import Derived.Test.YtjmpngghjbiajaaTNew
import Derived.Lib.MinMax
namespace Go.Proofs.Ytjmpngghjbiajaa
open Go.RowKit Go.Maps Go.WideMaps

/-- A row of integers has come back. -/
def Found (w : World) (l : List Int) (e : Ending) (w' : World) : Prop := ∃ A c, e = .returned (.slice A l.length c) ∧ IntsIn w' A l.length l ∧ Below w.heap.size w w'
theorem found_of {w : World} {P : Nm → Bool} {L : List Nm} {n : Nat} (hn : n ≤ 1000000) {f : FuncId} {args : Array Value} (h : Calls Try.prog f args w (IdxOut w (idxUp P L n))) {l : List Int} (hl : idxUp P L n = l) : Calls Try.prog f args w (Found w l) := by
  refine h.mono ?_
  rintro e w' ⟨v, rfl, ho, hb⟩
  subst hl
  obtain ⟨A, c, rfl⟩ := own_slice ho
  refine ⟨A, c, rfl, IntsIn.own ho (by have := idxUp_len P L n; unfold maxLen; omega) fun x hx => ?_, hb⟩
  have := idxUp_mem hx
  omega

set_option maxHeartbeats 2000000 in
set_option maxRecDepth 100000 in
theorem has_any (w : World) (A : Option Addr) (n c : Nat) (l : List Int) (h : IntsIn w A n l) (x : Int) :
    Calls Try.prog 19 #[.slice A n c, .int .i64 x] w fun e w' => e = .returned (.bool (decide (x ∈ l))) ∧ w' = w := by
  have HA := Lib.hid h
  have HLA := Lib.hid h.len
  have hn63 : n ≤ 9223372036854775807 := h.1
  obtain ⟨R, hR⟩ : ∃ R, R = decide (x ∈ l) := ⟨_, rfl⟩
  rw [← hR]
  have HR := Lib.hid hR
  clear h hR
  go_enter Try.func19, Try.ntmps19
  go_wp2
  go_loopw [5] (fun i wr => ∃ k : Nat, k ≤ n ∧ i = .int .i64 k ∧ wr = w ∧ x ∉ l.take k) (fun i _ => n - (intOf i).toNat)
  case atStart => exact ⟨0, by omega, rfl, rfl, by simp⟩
  case round =>
    obtain ⟨k, hk, rfl, rfl, ht⟩ := hrel
    have HT := Lib.hid ht
    clear ht
    rcases Nat.lt_or_ge k n with hlt | hge
    · have hlt' : (k : Int) < (n : Int) := by omega
      have p0 : (0 : Int) ≤ (k : Int) := by omega
      obtain ⟨pa, y, rfl, hy, cy, -, -⟩ := HA.out.at k hlt
      have HY := Lib.hid hy
      clear hy
      by_cases hx : y = x
      · have d1 : (y == x) = true := by simpa using hx
        have hf : R = true := by rw [HR.out, decide_eq_true_eq, ← hx]; exact List.mem_of_getElem? HY.out
        have HF := Lib.hid hf
        clear hf hx
        go_wp2
        go_ret
        exact ⟨by rw [HF.out]; rfl, rfl⟩
      · have d1 : (y == x) = false := by simpa using hx
        have hw5 : IntKind.i64.wrap ((k : Int) + 1) = (k : Int) + 1 := IntWalk.i64_in _ (by omega)
        have hnt : x ∉ l.take (k + 1) := by
          rw [List.take_add_one, HY.out]
          intro hm
          rcases List.mem_append.1 hm with h | h
          · exact HT.out h
          · simp at h; exact hx h.symm
        have HNT := Lib.hid hnt
        clear hnt hx
        go_wp2
        go_roundw
        case rel => exact ⟨k + 1, by omega, by go_num, by first | rfl | trivial, HNT.out⟩
        case measure => simp [intOf]; omega
    · obtain rfl : k = n := by omega
      have hlz : ¬ ((k : Int) < (k : Int)) := by omega
      have hf : R = false := by
        rw [HR.out, decide_eq_false_iff_not]
        have := HT.out
        rwa [List.take_of_length_le (by rw [HLA.out]; exact Nat.le_refl _)] at this
      have HF := Lib.hid hf
      clear hf
      go_wp2
      go_ret
      exact ⟨by rw [HF.out]; rfl, rfl⟩

set_option maxHeartbeats 4000000 in
set_option maxRecDepth 100000 in
theorem great_any (w : World) (A B : Option Addr) (n m ca cb : Nat) (L : List Nm) (ha : RowsSee w A n L) (hz : ∀ x ∈ L, x.length ≤ 140737488351232) (hn : n ≤ 140737488351232) (hm : m ≤ 140737488351232) :
    Calls Try.prog 9 #[.slice A n ca, .slice B m cb] w fun e w' => ∃ r, e = .returned (.bool r) ∧ w' = w ∧ (r = false → m < 20000 ∧ n < 20000 ∧ ∀ x ∈ L, x.length < 20000) := by
  have HA := Lib.hid ha
  have HLA := Lib.hid ha.len
  have HZ := Lib.hid hz
  clear ha hz
  go_enter Try.func9, Try.ntmps9
  go_wp2
  go_loopw [5, 6] (fun v i wr => ∃ k N : Nat, k ≤ n ∧ v = .int .i64 N ∧ i = .int .i64 k ∧ wr = w ∧ m + k ≤ N ∧ N ≤ 140737488400000 ∧ (N < 20000 → ∀ x ∈ L.take k, x.length < 20000)) (fun _ i _ => n - (intOf i).toNat)
  case atStart => exact ⟨0, m, by omega, rfl, rfl, rfl, by omega, by omega, fun _ x hx => by simp at hx⟩
  case round =>
    obtain ⟨k, N, hk, rfl, rfl, rfl, h1, h2, h3⟩ := hrel
    have H3 := Lib.hid h3
    clear h3
    by_cases hg : k < n ∧ N < 20000
    · have hlt' : (k : Int) < (n : Int) := by omega
      have d1 : decide ((k : Int) < (n : Int)) = true := by simpa using hg.1
      have d2 : decide ((N : Int) < 20000) = true := by simp; omega
      have p0 : (0 : Int) ≤ (k : Int) := by omega
      obtain ⟨x, hx⟩ : ∃ x, L[k]? = some x := ⟨_, List.getElem?_eq_getElem (by rw [HLA.out]; exact hg.1)⟩
      obtain ⟨pa, Ax, cx, rfl, ea, ecx, ex⟩ := HA.out.at_ k x hx
      have hxz := HZ.out x (List.mem_of_getElem? hx)
      have hw1 : IntKind.i64.wrap ((N : Int) + 1) = (N : Int) + 1 := IntWalk.i64_in _ (by omega)
      obtain ⟨K, hK⟩ : ∃ K, K = min x.length 20000 := ⟨_, rfl⟩
      have hmin : ∀ w ty, (Builtin.min_ #[3, 3] ty #[.int .i64 (x.length : Int), .int .i64 20000]).run Try.prog w = .ok (.int .i64 (K : Int)) w := fun w ty => by
        rw [Lib.run_min_ints, show min (x.length : Int) 20000 = (K : Int) by omega]
      have hw2 : IntKind.i64.wrap ((N : Int) + 1 + (K : Int)) = ((N + 1 + K : Nat) : Int) := by rw [IntWalk.i64_in _ (by omega)]; push_cast; rfl
      have hw3 : IntKind.i64.wrap ((k : Int) + 1) = (k : Int) + 1 := IntWalk.i64_in _ (by omega)
      have hnx : N + 1 + K < 20000 → ∀ y ∈ L.take (k + 1), y.length < 20000 := fun hN y hy => by
        rw [List.take_add_one, hx] at hy
        rcases List.mem_append.1 hy with h | h
        · exact H3.out (by omega) y h
        · simp at h; subst h; omega
      have HNX := Lib.hid hnx
      clear hx ex ecx hnx hxz
      have hK2 : K ≤ 20000 := by omega
      clear hK
      go_wp2
      go_roundw
      case rel => exact ⟨k + 1, N + 1 + K, by omega, by go_num, by go_num, by first | rfl | trivial, by omega, by omega, HNX.out⟩
      case measure => simp [intOf]; omega
    · obtain ⟨R, hR⟩ : ∃ R, R = decide ((20000 : Int) ≤ (N : Int)) := ⟨_, rfl⟩
      have hfin : R = false → m < 20000 ∧ n < 20000 ∧ ∀ x ∈ L, x.length < 20000 := fun e => by
        rw [e] at hR
        have hN : N < 20000 := by have := hR.symm; simp at this; omega
        have hkn : k = n := by omega
        have := H3.out hN
        rw [hkn, List.take_of_length_le (by rw [HLA.out]; exact Nat.le_refl _)] at this
        exact ⟨by omega, by omega, this⟩
      have HFIN := Lib.hid hfin
      have d3 : decide ((20000 : Int) ≤ (N : Int)) = R := hR.symm
      clear hfin hR
      by_cases hkn : k < n
      · have d1 : decide ((k : Int) < (n : Int)) = true := by simpa using hkn
        have d2 : decide ((N : Int) < 20000) = false := by simp; omega
        go_wp2
        go_ret
        exact ⟨R, by first | rfl | rw [d3], rfl, HFIN.out⟩
      · have d1 : decide ((k : Int) < (n : Int)) = false := by simpa using hkn
        go_wp2
        go_ret
        exact ⟨R, by first | rfl | rw [d3], rfl, HFIN.out⟩
end Go.Proofs.Ytjmpngghjbiajaa
