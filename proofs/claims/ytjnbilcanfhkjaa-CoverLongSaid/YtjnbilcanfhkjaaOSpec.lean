/- What the laws of cover ask of the program; and what they call besides. -/
import Derived.Test.YtjnbilcanfhkjaaORef2
import Derived.Test.YtjnbilcanfhkjaaORef3
import Derived.Test.YtjnbilcanfhkjaaORef4
import Derived.Test.YtjnbilcanfhkjaaORef5
import Derived.Test.YtjnbilcanfhkjaaTRef5
import Derived.Test.YtjnbilcanfhkjaaERef1
import Derived.Test.YtjnbilcanfhkjaaKSized
import Derived.Lib.MinMax
namespace Go.Proofs.Ytjnbilcanfhkjaa
open Go.RowKit Go.Maps Go.WideMaps

/-- The contracts of the program's cover: K: a cover of these tokens lies there. -/
structure CoverOk (K : World → Nat → List Nm → Prop) : Prop where
  below : ∀ {w w' : World} {b : Nat} {L : List Nm}, K w b L → Below w.heap.size w w' → K w' b L
  new_none : ∀ (w : World) (A : Option Addr) (n ca : Nat) (L : List Nm), RowsSee w A n L → n ≤ 140737488355328 → rightB L = false → Calls Try.prog 10 #[.slice A n ca] w fun e w' => e = .returned (.pointer none) ∧ Below w.heap.size w w'
  new : ∀ (w : World) (A : Option Addr) (n ca : Nat) (L : List Nm), RowsSee w A n L → rightB L = true → Calls Try.prog 10 #[.slice A n ca] w fun e w' => ∃ b, e = .returned (.pointer (some ⟨b, 0, none⟩)) ∧ Below w.heap.size w w' ∧ K w' b L
  of_ : ∀ {w : World} {b : Nat} {L : List Nm}, K w b L → rightB L = true → ∀ (B : Option Addr) (m cb : Nat) (s : Nm), BytesIn w B m s → m ≤ cb → m ≤ 30000 → Calls Try.prog 13 #[.pointer (some ⟨b, 0, none⟩), .slice B m cb] w (PairsOut w (alUp L s L.length))
  sure : ∀ {w : World} {b : Nat} {L : List Nm}, K w b L → rightB L = true → ∀ (B : Option Addr) (m cb : Nat) (s : Nm), BytesIn w B m s → m ≤ cb → m ≤ 30000 → ∀ t i : Int, fits64 t → fits64 i → Calls Try.prog 18 #[.pointer (some ⟨b, 0, none⟩), .slice B m cb, .agg #[.int .i64 t, .int .i64 i]] w fun e w' => e = .returned (.bool (sureB L s t i)) ∧ Below w.heap.size w w'
  chances : ∀ {w : World} {b : Nat} {L : List Nm}, K w b L → rightB L = true → ∀ (B C : Option Addr) (m p cb cp : Nat) (s : Nm) (l : List Int), BytesIn w B m s → IntsIn w C p l → m ≤ cb → m ≤ 30000 → p ≤ 500 → Calls Try.prog 16 #[.pointer (some ⟨b, 0, none⟩), .slice B m cb, .slice C p cp] w (IdxOut w (chUp L s l p))

theorem right_len {L : List Nm} (h : rightB L = true) : L.length ≤ 512 := by
  rcases Nat.lt_or_ge 512 L.length with h1 | h1
  · rw [rightB_long h1] at h; cases h
  · exact h1
theorem right_16 {L : List Nm} (h : rightB L = true) {k : Nat} {x : Nm} (hx : L[k]? = some x) : x.length ≤ 16 := by
  rcases Nat.lt_or_ge 16 x.length with h1 | h1
  · rw [rightB_wide hx h1] at h; cases h
  · exact h1
theorem right_getD {L : List Nm} (h : rightB L = true) (k : Nat) : (L.getD k []).length ≤ 16 := by
  rw [List.getD_eq_getElem?_getD]
  cases e : L[k]? with
  | none => simp
  | some x => exact right_16 h e
theorem right_tot {L : List Nm} (h : rightB L = true) (k : Nat) : totUp L k ≤ 16 * k := by
  induction k with
  | zero => simp [totUp]
  | succ k ih =>
    have := right_getD h k
    simp only [totUp]
    omega
theorem right_tok {L : List Nm} (h : rightB L = true) (i : Int) : (tokI L i).length ≤ 16 := by
  unfold tokI
  split
  · exact right_getD h _
  · simp
theorem right_text {L : List Nm} (h : rightB L = true) (l : List Int) (k : Nat) : (textUp L l k).length ≤ 16 * k := by
  induction k with
  | zero => simp [textUp]
  | succ k ih =>
    have := right_tok h (l.getD k 0)
    simp only [textUp, List.length_append]
    omega
theorem al_fits {L : List Nm} (h : rightB L = true) (s : Nm) {k : Nat} (hk : k ≤ L.length) : ∀ p ∈ alUp L s k, fits64 p.1 ∧ fits64 p.2 := fun p hp => by
  obtain ⟨i, j, h1, h2, h3, h4, _⟩ := alUp_mem.1 hp
  have := right_getD h i
  have := right_len h
  exact ⟨by unfold fits64; omega, by unfold fits64; omega⟩
theorem al_few {L : List Nm} (h : rightB L = true) (s : Nm) : (alUp L s L.length).length ≤ 8192 := by
  have h1 := alUp_len L s L.length
  have h2 := right_tot h L.length
  have h3 := right_len h
  omega
/-- A row of aligns has come back. -/
def PairsFound (w : World) (l : List (Int × Int)) (e : Ending) (w' : World) : Prop := ∃ A c, e = .returned (.slice A l.length c) ∧ PairsIn w' A l.length l ∧ Below w.heap.size w w'
theorem pairs_found {w : World} {l : List (Int × Int)} {f : FuncId} {args : Array Value} (h : Calls Try.prog f args w (PairsOut w l)) (hl : l.length ≤ 1000000) (hf : ∀ p ∈ l, fits64 p.1 ∧ fits64 p.2) : Calls Try.prog f args w (PairsFound w l) := by
  refine h.mono ?_
  rintro e w' ⟨v, rfl, ho, hb⟩
  obtain ⟨A, c, rfl⟩ := own_slice ho
  exact ⟨A, c, rfl, PairsIn.ownTwo ho rfl (by unfold maxLen; omega) hf, hb⟩
theorem offT_mem {t s : Nm} {o : Nat} {x : Int} {k : Nat} : x ∈ offT t s o k ↔ ∃ j : Nat, j < k ∧ x = ((o + j : Nat) : Int) ∧ mayB t s j = true := by
  unfold offT
  rw [List.mem_map]
  constructor
  · rintro ⟨p, hp, rfl⟩
    obtain ⟨h1, j, h2, h3, h4⟩ := alT_mem.1 hp
    exact ⟨j, h2, by rw [h1, h3]; push_cast; rfl, h4⟩
  · rintro ⟨j, h1, rfl, h2⟩
    exact ⟨((o : Int), (j : Int)), alT_mem.2 ⟨rfl, j, h1, rfl, h2⟩, by push_cast; rfl⟩
theorem ch_mem {L : List Nm} {s : Nm} {l : List Int} {x : Int} : ∀ {k : Nat}, x ∈ chUp L s l k ↔ ∃ i j : Nat, i < k ∧ j < (tokI L (l.getD i 0)).length ∧ x = (((textUp L l i).length + j : Nat) : Int) ∧ mayB (tokI L (l.getD i 0)) s j = true
  | 0 => by simp [chUp]
  | k + 1 => by
    have e : chUp L s l (k + 1) = chUp L s l k ++ offT (tokI L (l.getD k 0)) s (textUp L l k).length (tokI L (l.getD k 0)).length := rfl
    rw [e, List.mem_append, ch_mem, offT_mem]
    constructor
    · rintro (⟨i, j, h1, h2⟩ | ⟨j, h1, h2, h3⟩)
      · exact ⟨i, j, by omega, h2⟩
      · exact ⟨k, j, by omega, h1, h2, h3⟩
    · rintro ⟨i, j, h1, h2, h3, h4⟩
      rcases Nat.lt_or_ge i k with h5 | h5
      · exact .inl ⟨i, j, h5, h2, h3, h4⟩
      · obtain rfl : i = k := by omega
        exact .inr ⟨j, h2, h3, h4⟩
theorem ints_found {w : World} {l : List Int} {f : FuncId} {args : Array Value} (h : Calls Try.prog f args w (IdxOut w l)) (hl : l.length ≤ 1000000) (hf : ∀ x ∈ l, -9223372036854775808 ≤ x ∧ x ≤ 9223372036854775807) : Calls Try.prog f args w fun e w' => ∃ A c, e = .returned (.slice A l.length c) ∧ IntsIn w' A l.length l ∧ Below w.heap.size w w' := by
  refine h.mono ?_
  rintro e w' ⟨v, rfl, ho, hb⟩
  obtain ⟨A, c, rfl⟩ := own_slice ho
  exact ⟨A, c, rfl, IntsIn.own ho (by unfold maxLen; omega) hf, hb⟩
theorem textUp_le (L : List Nm) (l : List Int) {a b : Nat} (h : a ≤ b) : (textUp L l a).length ≤ (textUp L l b).length := textUp_mono L l h
theorem ch_fits {L : List Nm} (h : rightB L = true) (s : Nm) (l : List Int) {k : Nat} (hk : k ≤ 500) : ∀ x ∈ chUp L s l k, -9223372036854775808 ≤ x ∧ x ≤ 9223372036854775807 := fun x hx => by
  obtain ⟨i, j, h1, h2, rfl, _⟩ := ch_mem.1 hx
  have := right_tok h (l.getD i 0)
  have := right_text h l i
  omega
theorem ch_few {L : List Nm} (h : rightB L = true) (s : Nm) (l : List Int) {k : Nat} (hk : k ≤ 500) : (chUp L s l k).length ≤ 8000 := by
  have := chUp_len L s l k
  have := right_text h l k
  omega

set_option maxHeartbeats 4000000 in
set_option maxRecDepth 100000 in
theorem coverGreat_any (w : World) (A B C : Option Addr) (n m p ca cb cp : Nat) (L : List Nm) (ha : RowsSee w A n L) (hz : ∀ x ∈ L, x.length ≤ 140737488351232) (hn : n ≤ 140737488351232) (hm : m ≤ 140737488351232) (hp : p ≤ 140737488351232) :
    Calls Try.prog 9 #[.slice A n ca, .slice B m cb, .slice C p cp] w fun e w' => ∃ r, e = .returned (.bool r) ∧ w' = w ∧ (r = false → m < 20000 ∧ n < 20000 ∧ p ≤ 500 ∧ totUp L n < 20000 ∧ ∀ x ∈ L, x.length < 20000) := by
  have HA := Lib.hid ha
  have HLA := Lib.hid ha.len
  have HZ := Lib.hid hz
  have hw0 : IntKind.i64.wrap ((m : Int) + (p : Int)) = ((m + p : Nat) : Int) := by rw [IntWalk.i64_in _ (by omega)]; push_cast; rfl
  clear ha hz
  go_enter Try.func9, Try.ntmps9
  go_wp2
  go_loopw [7, 8] (fun v i wr => ∃ k N : Nat, k ≤ n ∧ v = .int .i64 N ∧ i = .int .i64 k ∧ wr = w ∧ m + p + k ≤ N ∧ N ≤ 281474976800000 ∧ (N < 20000 → N = m + p + k + totUp L k ∧ ∀ x ∈ L.take k, x.length < 20000)) (fun _ i _ => n - (intOf i).toNat)
  case atStart => exact ⟨0, m + p, by omega, by go_num, rfl, rfl, by omega, by omega, fun _ => ⟨by simp [totUp], fun x hx => by simp at hx⟩⟩
  case round =>
    obtain ⟨k, N, hk, rfl, rfl, rfl, h1, h2, h3⟩ := hrel
    have H3 := Lib.hid h3
    clear h3
    by_cases hg : k < n ∧ N < 20000
    · have hlt' : (k : Int) < (n : Int) := by omega
      have d1 : decide ((k : Int) < (n : Int)) = true := by simpa using hg.1
      have d2 : decide ((N : Int) < 20000) = true := by simp; omega
      have p0 : (0 : Int) ≤ (k : Int) := by omega
      obtain ⟨x, hx⟩ : ∃ x, L[k]? = some x := ⟨_, List.getElem?_eq_getElem (by rw [HLA.out]; exact hg.1)⟩
      obtain ⟨pa, Ax, cx, rfl, ea, ecx, ex⟩ := HA.out.at_ k x hx
      have hxz := HZ.out x (List.mem_of_getElem? hx)
      have hw1 : IntKind.i64.wrap ((N : Int) + 1) = (N : Int) + 1 := IntWalk.i64_in _ (by omega)
      obtain ⟨K, hK⟩ : ∃ K, K = min x.length 20000 := ⟨_, rfl⟩
      have hmin : ∀ w ty, (Builtin.min_ #[3, 3] ty #[.int .i64 (x.length : Int), .int .i64 20000]).run Try.prog w = .ok (.int .i64 (K : Int)) w := fun w ty => by
        rw [Lib.run_min_ints, show min (x.length : Int) 20000 = (K : Int) by omega]
      have hw2 : IntKind.i64.wrap ((N : Int) + 1 + (K : Int)) = ((N + 1 + K : Nat) : Int) := by rw [IntWalk.i64_in _ (by omega)]; push_cast; rfl
      have hw3 : IntKind.i64.wrap ((k : Int) + 1) = (k : Int) + 1 := IntWalk.i64_in _ (by omega)
      have hgd : L.getD k [] = x := by rw [List.getD_eq_getElem?_getD, hx]; rfl
      have hnx : N + 1 + K < 20000 → N + 1 + K = m + p + (k + 1) + totUp L (k + 1) ∧ ∀ y ∈ L.take (k + 1), y.length < 20000 := fun hN => by
        obtain ⟨q1, q2⟩ := H3.out (by omega)
        refine ⟨?_, fun y hy => ?_⟩
        · simp only [totUp]
          rw [hgd]
          omega
        · rw [List.take_add_one, hx] at hy
          rcases List.mem_append.1 hy with h | h
          · exact q2 y h
          · simp at h; subst h; omega
      have HNX := Lib.hid hnx
      clear hx ex ecx hnx hxz hgd
      have hK2 : K ≤ 20000 := by omega
      clear hK
      go_wp2
      go_roundw
      case rel => exact ⟨k + 1, N + 1 + K, by omega, by go_num, by go_num, by first | rfl | trivial, by omega, by omega, HNX.out⟩
      case measure => simp [intOf]; omega
    · have hfin : N < 20000 → p ≤ 500 → m < 20000 ∧ n < 20000 ∧ p ≤ 500 ∧ totUp L n < 20000 ∧ ∀ x ∈ L, x.length < 20000 := fun hN hp5 => by
        have hkn : k = n := by omega
        obtain ⟨q1, q2⟩ := H3.out hN
        rw [hkn, List.take_of_length_le (by rw [HLA.out]; exact Nat.le_refl _)] at q2
        rw [hkn] at q1
        exact ⟨by omega, by omega, hp5, by omega, q2⟩
      have HFIN := Lib.hid hfin
      clear hfin
      have hgd : ∃ b1 b2, decide ((k : Int) < (n : Int)) = b1 ∧ decide ((N : Int) < 20000) = b2 ∧ (b1 = false ∨ b2 = false) := by
        refine ⟨_, _, rfl, rfl, ?_⟩
        by_cases h5 : k < n
        · exact .inr (by simp; omega)
        · exact .inl (by simpa using h5)
      by_cases hkn : k < n
      · have d1 : decide ((k : Int) < (n : Int)) = true := by simpa using hkn
        have d2 : decide ((N : Int) < 20000) = false := by simp; omega
        have d3 : decide ((20000 : Int) ≤ (N : Int)) = true := by simp; omega
        clear hgd
        go_wp2
        go_ret
        exact ⟨true, rfl, rfl, fun e => by cases e⟩
      · have d1 : decide ((k : Int) < (n : Int)) = false := by simpa using hkn
        clear hgd
        by_cases hN : N < 20000
        · have d3 : decide ((20000 : Int) ≤ (N : Int)) = false := by simp; omega
          by_cases hp5 : p ≤ 500
          · have d4 : decide ((500 : Int) < (p : Int)) = false := by simp; omega
            go_wp2
            go_ret
            exact ⟨false, rfl, rfl, fun _ => HFIN.out hN hp5⟩
          · have d4 : decide ((500 : Int) < (p : Int)) = true := by simp; omega
            go_wp2
            go_ret
            exact ⟨true, rfl, rfl, fun e => by cases e⟩
        · have d3 : decide ((20000 : Int) ≤ (N : Int)) = true := by simp; omega
          go_wp2
          go_ret
          exact ⟨true, rfl, rfl, fun e => by cases e⟩
end Go.Proofs.Ytjnbilcanfhkjaa
