/- The scripts of sets' laws: what they are, Great. -/
import Derived.Test.YtkligdaademakaaSeLaws1
namespace Go.Proofs.Ytkligdaademakaa
open Go.RowKit Go.Maps Go.WideMaps
set_option linter.unusedSimpArgs false

structure SOp where
  what : Int
  l : List Int
  n : Int
/-- A script that came in. -/
structure SOpsSee (w : World) (A : Option Addr) (n : Nat) (T : List SOp) : Prop where
  len : T.length = n
  fit : n ≤ maxLen
  nil : A = none → n = 0
  at_ : ∀ ad, A = some ad → ∀ (i : Nat) (x : SOp), T[i]? = some x → fits64 x.what ∧ fits64 x.n ∧ w.cell? (ad.add (i * 3)) = some (.int .i64 x.what) ∧ w.cell? (ad.add (i * 3 + 2)) = some (.int .i64 x.n) ∧ ∃ B c, w.cell? (ad.add (i * 3 + 1)) = some (.slice B x.l.length c) ∧ x.l.length ≤ c ∧ IntsIn w B x.l.length x.l
theorem SOpsSee.below {w w' : World} {A : Option Addr} {n : Nat} {T : List SOp} (h : SOpsSee w A n T) (hb : Below w.heap.size w w') : SOpsSee w' A n T where
  len := h.len
  fit := h.fit
  nil := h.nil
  at_ := fun ad e i x hx => by
    obtain ⟨h1, h2, h3, h4, B, c, h5, h6, h7⟩ := h.at_ ad e i x hx
    exact ⟨h1, h2, below_cells hb h3, below_cells hb h4, B, c, below_cells hb h5, h6, h7.below hb⟩
theorem SOpsSee.at {w : World} {A : Option Addr} {n : Nat} {T : List SOp} (h : SOpsSee w A n T) (k : Nat) (hk : k < n) :
    ∃ ad x B c, A = some ad ∧ T[k]? = some x ∧ fits64 x.what ∧ fits64 x.n ∧ w.cell? (ad.add (k * 3)) = some (.int .i64 x.what) ∧ w.cell? ⟨(ad.add (k * 3)).block, (ad.add (k * 3)).off + 1, none⟩ = some (.slice B x.l.length c) ∧ w.cell? ⟨(ad.add (k * 3)).block, (ad.add (k * 3)).off + 2, none⟩ = some (.int .i64 x.n) ∧ x.l.length ≤ c ∧ IntsIn w B x.l.length x.l := by
  have hl := h.len
  cases hA : A with
  | none => have := h.nil hA; omega
  | some ad =>
    subst hA
    have hx : T[k]? = some (T[k]'(by omega)) := List.getElem?_eq_getElem _
    obtain ⟨h1, h2, h3, h4, B, c, h5, h6, h7⟩ := h.at_ ad rfl k _ hx
    rw [add_pos' _ _ _ (by omega)] at h4 h5
    exact ⟨ad, _, B, c, rfl, hx, h1, h2, h3, h5, h4, h6, h7⟩
def opUp (T : List SOp) : Nat → Nat
  | 0 => 0
  | k + 1 => opUp T k + (T.getD k ⟨0, [], 0⟩).l.length
theorem opUp_le (T : List SOp) : ∀ k i, i < k → (T.getD i ⟨0, [], 0⟩).l.length ≤ opUp T k
  | 0, i, h => by omega
  | k + 1, i, h => by
    simp only [opUp]
    rcases Nat.lt_or_ge i k with h3 | h3
    · have := opUp_le T k i h3; omega
    · obtain rfl : i = k := by omega
      omega
/-- A script that is not too much. -/
structure SmallS (T : List SOp) : Prop where
  few : T.length ≤ 600
  len : ∀ x ∈ T, x.l.length ≤ 600
  all : ∀ x ∈ T, x.what = 1 → x.n ≤ 60

def SGreatOut (w : World) (T : List SOp) (e : Ending) (w' : World) : Prop := ∃ r, e = .returned (.bool r) ∧ w' = w ∧ (r = false → SmallS T)
set_option maxHeartbeats 8000000 in
set_option maxRecDepth 100000 in
theorem seGreat_any (w : World) (A : Option Addr) (n c : Nat) (T : List SOp) (h : SOpsSee w A n T) (hn : n ≤ 140737488351232) (hz : ∀ x ∈ T, x.l.length ≤ 140737488351232) :
    Calls Try.prog 9 #[.slice A n c] w (SGreatOut w T) := by
  have HT := Lib.hid h
  have HLEN := Lib.hid h.len
  have HZ := Lib.hid hz
  clear h hz
  go_enter Try.func9, Try.ntmps9
  go_wp2
  go_loopw [3, 4] (fun v i wr => ∃ k N : Nat, k ≤ n ∧ v = .int .i64 N ∧ i = .int .i64 k ∧ wr = w ∧ n ≤ N ∧ N ≤ 281474976800000 ∧ N = n + opUp T k ∧ ∀ i, i < k → (T.getD i ⟨0, [], 0⟩).what = 1 → (T.getD i ⟨0, [], 0⟩).n ≤ 60) (fun _ i _ => n - (intOf i).toNat)
  case atStart => exact ⟨0, n, by omega, rfl, rfl, rfl, by omega, by omega, rfl, fun i hi => by omega⟩
  case round =>
    obtain ⟨k, N, hk, rfl, rfl, hwr, h1, h2, h3, h4⟩ := hrel
    obtain rfl := hwr.symm
    have H3 := Lib.hid h3
    have H4 := Lib.hid h4
    clear h3 h4
    by_cases hg : k < n ∧ N < 600
    · have hlt' : (k : Int) < (n : Int) := by omega
      have d1 : decide ((k : Int) < (n : Int)) = true := by simpa using hg.1
      have d2 : decide ((N : Int) < 600) = true := by simp; omega
      have p0 : (0 : Int) ≤ (k : Int) := by omega
      obtain ⟨pa, x, B, cb, rfl, hx, hf1, hf2, a0, a1, a2, -, -⟩ := HT.out.at k hg.1
      have hxz := HZ.out x (List.mem_of_getElem? hx)
      have hxg : T.getD k ⟨0, [], 0⟩ = x := by rw [List.getD_eq_getElem?_getD, hx]; rfl
      obtain ⟨K, hK⟩ : ∃ K, K = x.l.length := ⟨_, rfl⟩
      rw [← hK] at a1 hxz
      have hw2 : IntKind.i64.wrap ((N : Int) + (K : Int)) = ((N + K : Nat) : Int) := by rw [IntWalk.i64_in _ (by omega)]; push_cast; rfl
      have hw3 : IntKind.i64.wrap ((k : Int) + 1) = (k : Int) + 1 := IntWalk.i64_in _ (by omega)
      have HNX : Hid (N + K = n + opUp T (k + 1)) := Lib.hid (by rw [opUp, hxg]; have := H3.out; omega)
      have HG := Lib.hid hxg
      obtain ⟨x1, xl, x3⟩ := x
      simp only at a0 a2 hf1 hf2
      clear hx hxg hK
      by_cases hw : x1 = 1
      · have e1 : (x1 == 1) = true := by simpa using hw
        by_cases hbig : 60 < x3
        · have e2 : decide ((60 : Int) < x3) = true := decide_eq_true hbig
          clear hw
          go_wp2
          go_ret
          exact ⟨true, rfl, rfl, fun e => by cases e⟩
        · have e2 : decide ((60 : Int) < x3) = false := decide_eq_false hbig
          have H5 : Hid (∀ i, i < k + 1 → (T.getD i ⟨0, [], 0⟩).what = 1 → (T.getD i ⟨0, [], 0⟩).n ≤ 60) := Lib.hid fun i hi e => by
            rcases Nat.lt_or_ge i k with h6 | h6
            · exact H4.out i h6 e
            · obtain rfl : i = k := by omega
              rw [HG.out]
              show x3 ≤ 60
              omega
          clear hw
          go_wp2
          go_roundw
          case rel => exact ⟨k + 1, N + K, by omega, by go_num, by go_num, by first | rfl | trivial, by omega, by omega, HNX.out, H5.out⟩
          case measure => simp [intOf]; omega
      · have e1 : (x1 == 1) = false := by simpa using hw
        have H5 : Hid (∀ i, i < k + 1 → (T.getD i ⟨0, [], 0⟩).what = 1 → (T.getD i ⟨0, [], 0⟩).n ≤ 60) := Lib.hid fun i hi e => by
          rcases Nat.lt_or_ge i k with h6 | h6
          · exact H4.out i h6 e
          · obtain rfl : i = k := by omega
            rw [HG.out] at e
            exact absurd e hw
        clear hw
        go_wp2
        go_roundw
        case rel => exact ⟨k + 1, N + K, by omega, by go_num, by go_num, by first | rfl | trivial, by omega, by omega, HNX.out, H5.out⟩
        case measure => simp [intOf]; omega
    · by_cases hkn : k < n
      · have d1 : decide ((k : Int) < (n : Int)) = true := by simpa using hkn
        have d2 : decide ((N : Int) < 600) = false := by simp; omega
        have d3 : decide ((600 : Int) ≤ (N : Int)) = true := by simp; omega
        go_wp2
        go_ret
        exact ⟨true, rfl, rfl, fun e => by cases e⟩
      · have d1 : decide ((k : Int) < (n : Int)) = false := by simpa using hkn
        by_cases hN : N < 600
        · have d3 : decide ((600 : Int) ≤ (N : Int)) = false := by simp; omega
          have hfin : SmallS T := by
            have hkn2 : k = n := by omega
            have h4 := H3.out
            have hl := HLEN.out
            refine ⟨by omega, fun x hx => ?_, fun x hx e => ?_⟩
            · obtain ⟨i, hi⟩ := List.getElem?_of_mem hx
              have h5 := (List.getElem?_eq_some_iff.1 hi).1
              have h6 := opUp_le T k i (by omega)
              rw [List.getD_eq_getElem?_getD, hi] at h6
              simp only [Option.getD_some] at h6
              omega
            · obtain ⟨i, hi⟩ := List.getElem?_of_mem hx
              have h5 := (List.getElem?_eq_some_iff.1 hi).1
              have h6 := H4.out i (by omega)
              rw [List.getD_eq_getElem?_getD, hi] at h6
              exact h6 e
          have HFIN := Lib.hid hfin
          clear hfin
          go_wp2
          go_ret
          exact ⟨false, rfl, rfl, fun _ => HFIN.out⟩
        · have d3 : decide ((600 : Int) ≤ (N : Int)) = true := by simp; omega
          go_wp2
          go_ret
          exact ⟨true, rfl, rfl, fun e => by cases e⟩

/-- What a script does to a stack of lists. -/
def kOf (o : SOp) (n : Nat) : Nat := if 0 < o.n ∧ o.n ≤ (n : Int) then o.n.toNat else 0
def stepO (st : List (List Int)) (o : SOp) : List (List Int) :=
  if o.what = 0 then st ++ [listI o.l]
  else if o.what = 1 then st ++ [allI o.n.toNat]
  else if o.what = 2 ∨ o.what = 3 ∨ o.what = 4 then
    if st.length < 2 then st
    else st.take (st.length - 2) ++ [if o.what = 2 then andI (st.getD (st.length - 2) []) (st.getD (st.length - 1) []) else if o.what = 3 then orI (st.getD (st.length - 2) []) (st.getD (st.length - 1) []) else lessI (st.getD (st.length - 2) []) (st.getD (st.length - 1) [])]
  else if o.what = 5 then st.take (st.length - kOf o st.length) ++ [andL (st.drop (st.length - kOf o st.length))]
  else if o.what = 6 then st.take (st.length - kOf o st.length) ++ [orL (st.drop (st.length - kOf o st.length))]
  else if o.what = 7 then st ++ [[]]
  else st
def runO (T : List SOp) : Nat → List (List Int)
  | 0 => []
  | k + 1 => stepO (runO T k) (T.getD k ⟨0, [], 0⟩)
def wantL (T : List SOp) : List Int := (runO T T.length).getLastD []
theorem stepO_len (st : List (List Int)) (o : SOp) : (stepO st o).length ≤ st.length + 1 := by
  unfold stepO
  repeat' split
  all_goals first | (simp only [List.length_append, List.length_take, List.length_cons, List.length_nil]; omega) | omega
theorem runO_len (T : List SOp) : ∀ k, (runO T k).length ≤ k
  | 0 => Nat.le_refl _
  | k + 1 => by
    have h1 := runO_len T k
    have h2 := stepO_len (runO T k) (T.getD k ⟨0, [], 0⟩)
    rw [runO]
    omega
end Go.Proofs.Ytkligdaademakaa
