/- LebShort and LebRising, walked. -/
import Derived.Test.YtmncnbnloonenaaLHead
import Derived.Lib.MinMax
namespace Go.Proofs.Ytmncnbnloonenaa
open Go.RowKit Go.Maps Go.WideMaps Go.Shelf

/-- A row of bytes of one's own as a string, now and later. -/
theorem str_own {w : World} {base : Nat} {A : Option Addr} {n c : Nat} {l : Nm} (h : w.ownsRow base 5 1 (.slice A n c) n (l.map byteV)) (h63 : n ≤ maxLen) :
    (convert 23 9 (.slice A n c)).run Try.prog w = .ok (.string ⟨l.toArray⟩) w ∧ ∀ w', Below w.heap.size w w' → (convert 23 9 (.slice A n c)).run Try.prog w' = .ok (.string ⟨l.toArray⟩) w' :=
  ⟨str_of (BytesIn.own h h63) c, fun _ hb => str_of ((BytesIn.own h h63).below hb) c⟩
theorem lPut_is (w : World) (args : Array Value) (n : Nat) (hn : n < 18446744073709551616) (L : Nm) (N : Nat) (hL : putL n = L) (hN : L.length = N) (h : args = #[.int .u64 n]) :
    Calls Try.prog 13 args w fun e w' => ∃ A c, e = .returned (.slice A N c) ∧ w'.ownsRow w.heap.size 5 1 (.slice A N c) N (L.map byteV) ∧ Below w.heap.size w w' := by
  subst hL hN h
  refine (lPut_any w n hn).mono ?_
  rintro e w' ⟨v, rfl, hO, hB⟩
  obtain ⟨A, c, rfl⟩ := own_slice hO
  exact ⟨A, c, rfl, hO, hB⟩
theorem r3Put_is (w : World) (args : Array Value) (n : Nat) (hn : n < 18446744073709551616) (L : Nm) (N : Nat) (hL : putL n = L) (hN : L.length = N) (h : args = #[.int .u64 n]) :
    Calls Try.prog 14 args w fun e w' => ∃ A c, e = .returned (.slice A N c) ∧ w'.ownsRow w.heap.size 5 1 (.slice A N c) N (L.map byteV) ∧ Below w.heap.size w w' := by
  subst hL hN h
  refine (r3Put_any w n hn).mono ?_
  rintro e w' ⟨v, rfl, hO, hB⟩
  obtain ⟨A, c, rfl⟩ := own_slice hO
  exact ⟨A, c, rfl, hO, hB⟩

set_option maxHeartbeats 4000000 in
set_option maxRecDepth 100000 in
theorem lebShort_any (w : World) (a b : Nat) (ha : a < 18446744073709551616) (hb : b < 18446744073709551616) (x : UInt8) :
    Calls Try.prog 5 #[.int .u64 a, .int .u64 b, .int .u8 x.toNat] w fun e w' => e = .returned (.bool true) ∧ Below w.heap.size w w' := by
  obtain ⟨p, hp⟩ : ∃ p, p = min a b := ⟨_, rfl⟩
  obtain ⟨q, hq⟩ : ∃ q, q = max a b := ⟨_, rfl⟩
  have hmin : ∀ w ty, (Builtin.min_ #[22, 22] ty #[.int .u64 a, .int .u64 b]).run Try.prog w = .ok (.int .u64 p) w := fun w ty => by
    rw [Lib.run_min_ints, show min (a : Int) (b : Int) = (p : Int) by omega]
  have hmax : ∀ w ty, (Builtin.max_ #[22, 22] ty #[.int .u64 a, .int .u64 b]).run Try.prog w = .ok (.int .u64 q) w := fun w ty => by
    rw [Lib.run_max_ints, show max (a : Int) (b : Int) = (q : Int) by omega]
  have hpl : p < 18446744073709551616 := by omega
  have hql : q < 18446744073709551616 := by omega
  have hpq := putL_mono p q (by omega)
  have hp0 := putL_pos p
  have hq0 := putL_pos q
  have hp10 := putL_len p hpl
  obtain ⟨P, hP⟩ : ∃ P, putL p = P := ⟨_, rfl⟩
  obtain ⟨Q, hQ⟩ : ∃ Q, putL q = Q := ⟨_, rfl⟩
  obtain ⟨m, hm⟩ : ∃ m, P.length = m := ⟨_, rfl⟩
  obtain ⟨n, hn⟩ : ∃ n, Q.length = n := ⟨_, rfl⟩
  rw [hP, hm] at hpq hp0 hp10
  rw [hQ, hn] at hpq hq0
  obtain ⟨k, hk⟩ : ∃ k, k = x.toNat % m := ⟨_, rfl⟩
  have hkm : k < m := by rw [hk]; exact Nat.mod_lt _ hp0
  have hx := x.toNat_lt
  have hkz : (x.toNat : Int).tmod (m : Int) = (k : Int) := by rw [hk, Int.tmod_eq_emod_of_nonneg (by omega)]; simp
  have hkz2 : (x.toNat : Int) % (m : Int) = (k : Int) := by rw [hk]; simp
  have hcut : getL (P.take k) = (0, 0, 31) := by rw [← hP]; exact getL_cut hpl (by rw [hP, hm]; exact hkm)
  have HC := Lib.hid hcut
  have HP := Lib.hid hP
  have HQ := Lib.hid hQ
  have HM := Lib.hid hm
  have HN := Lib.hid hn
  clear hcut hP hQ hm hn hk hp hq ha hb
  go_enter Try.func5, Try.ntmps5
  go_wp2_with fail
  refine (lebHead_any w).mono ?_
  rintro e w1 ⟨rfl, hb⟩
  have B1 := Lib.hid hb
  clear hb
  go_wp2_with fail
  refine (lPut_is w1 _ p hpl P m HP.out HM.out rfl).mono ?_
  rintro e w2 ⟨A2, c2, rfl, hO2, hB2⟩
  have I2 := Lib.hid (BytesIn.own hO2 (by unfold maxLen; omega))
  have hmc := own_le hO2
  have B2 := Lib.hid (below_then B1.out hB2 B1.out.size)
  clear hO2 hB2
  go_wp2_with fail
  refine (lPut_is w2 _ q hql Q n HQ.out HN.out rfl).mono ?_
  rintro e w3 ⟨A3, c3, rfl, hO3, hB3⟩
  have I3 := Lib.hid (I2.out.below hB3)
  have B3 := Lib.hid (below_then B2.out hB3 B2.out.size)
  clear hO3 hB3
  have s1 : ∀ w, (Instr.slice 23 (.slice A2 m c2) none (some (.int .i64 k)) none).run Try.prog w = .ok (.slice A2 k c2) w := fun w => slice_to w A2 m c2 k (by omega)
  have hmn : (m : Int) ≤ (n : Int) := by omega
  have hm1 : ((m : Int) == 0) = false := by simp; omega
  have hn1 : ((n : Int) == 0) = false := by simp; omega
  clear hmin hmax
  go_wp2_with fail
  refine (lGet_is w3 A2 k c2 _ (I3.out.upto k (by omega)) HC.out).mono ?_
  rintro e w4 ⟨rfl, hw⟩
  rw [hw]
  clear hw
  go_wp2
  go_ret
  exact ⟨rfl, B3.out⟩

/-- Whatever PutRising leaves: a slice, and the string that it is. -/
theorem putR_out {w w' : World} {l : List Int} {e : Ending} (h : PutROut w l e w') (hn : l.length ≤ 1000000) (hx : ∀ x ∈ l, x ≤ 9223372036854775807) :
    ∃ A N c z, e = .returned (.tuple #[.slice A N c, .int .i64 (if rises (-1) l then 0 else 1)]) ∧ Below w.heap.size w w' ∧ z = (if rises (-1) l then putR l else []) ∧ N = z.length ∧ BytesIn w' A N z := by
  obtain ⟨v, n, rfl, hb, h⟩ := h
  rcases h with ⟨h1, h2, h3⟩ | ⟨h1, h2, h3⟩
  · obtain ⟨A, c, rfl⟩ := own_slice h3
    subst h2
    refine ⟨A, _, c, putR l, by rw [if_pos h1], hb, by rw [if_pos h1], rfl, BytesIn.own h3 ?_⟩
    have h4 := putUp_len (l := l) (k := l.length) (Nat.le_refl _) (by rw [List.take_length]; exact h1) hx (by omega)
    have h5 : putUp l l.length = putR l := by unfold putUp putR; rw [List.take_length]
    rw [h5] at h4
    unfold maxLen
    omega
  · subst h2 h3
    have h4 : ¬ rises (-1) l = true := by rw [h1]; exact Bool.false_ne_true
    exact ⟨none, 0, 0, [], by rw [if_neg h4], hb, by rw [if_neg h4], rfl, BytesIn.nil _⟩
theorem getR_out {w w' : World} {g : List Int × Nat × Int} {e : Ending} (h : GetROut w g e w') (hn : g.1.length ≤ 1099511627776) (hl : ∀ x ∈ g.1, -9223372036854775808 ≤ x ∧ x ≤ 9223372036854775807) :
    ∃ A N c, e = .returned (.tuple #[.slice A N c, .int .i64 g.2.1, .int .i64 g.2.2]) ∧ Below w.heap.size w w' ∧ N = g.1.length ∧ IntsIn w' A N g.1 := by
  obtain ⟨v, rfl, hb, ho⟩ := h
  obtain ⟨A, c, rfl⟩ := own_slice ho
  exact ⟨A, _, c, rfl, hb, rfl, IntsIn.own ho (by unfold maxLen; omega) hl⟩
theorem rises_ge (l : List Int) : ∀ p, rises p l = true → ∀ x ∈ l, p < x := by
  induction l with
  | nil => intro p _ x hx; cases hx
  | cons y r ih =>
    intro p h x hx
    simp only [rises, Bool.and_eq_true, decide_eq_true_eq] at h
    rcases List.mem_cons.1 hx with rfl | hx
    · exact h.1
    · have := ih y h.2 x hx
      omega
theorem getRAux_small : ∀ (m : Nat) (p : Int) (at_ : Nat) (b : List UInt8) (acc : List Int), (getRAux m p at_ b acc).1.length ≤ acc.length + b.length
  | 0, p, at_, b, acc => by simp [getRAux]
  | m + 1, p, at_, b, acc => by
    simp only [getRAux]
    split
    · simp
    · rename_i he
      split
      · simp
      · have h1 := getL_pos (l := b) (by simpa using he)
        have h2 := getRAux_small m (p + (getL b).1 + 1) (at_ + (getL b).2.1) (b.drop (getL b).2.1) (acc ++ [p + (getL b).1 + 1])
        rw [List.length_append, List.length_drop] at h2
        simp only [List.length_cons, List.length_nil] at h2
        omega
theorem getR_small (b : List UInt8) (most : Int) : (getR b most).1.length ≤ b.length := by
  unfold getR
  split
  · simp
  · split
    · simp
    · have := getRAux_small (getL b).1 (-1) (getL b).2.1 (b.drop (getL b).2.1) []
      rw [List.length_drop] at this
      simp at this
      omega
theorem getR_bounds (b : List UInt8) (most : Int) : ∀ x ∈ (getR b most).1, -9223372036854775808 ≤ x ∧ x ≤ 9223372036854775807 := by
  intro x hx
  rcases getR_err b most with h | ⟨h, _⟩
  · rcases hg : getR b most with ⟨l, k, e⟩
    rw [hg] at h hx
    simp only at h hx
    subst h
    obtain ⟨h1, h2, _⟩ := getR_inv hg
    have := rises_ge l _ h1 x hx
    have := h2 x hx
    omega
  · rw [h] at hx; cases hx
end Go.Proofs.Ytmncnbnloonenaa
